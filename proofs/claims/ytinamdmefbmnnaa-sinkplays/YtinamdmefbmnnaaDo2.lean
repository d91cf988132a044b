/-
  do, walked: the other acts.
-/
import Derived.Test.YtinamdmefbmnnaaDo
namespace Go.Proofs.Ytinamdmefbmnnaa
open Go.RowKit

section
variable {c : Con} {deep box : Nat} {acc : List UInt8} {room : Nat} {full fx : Bool} {s : ByteArray} {ra : Option (Value × List ByteArray)} {rn : Option Nat} {w : World}
theorem stepL {ops : Array Oper} {o : Oper} {a : Act} {K : Act → World → Prop} {Q : Exit → Act → World → Prop} {E : Prop} {v : Value} {g : Nat} {ss : List ByteArray} (hgd : o.guard = none) (sl x : Operand)
    (ho : o.op = .call { callee := .builtin .append, args := #[sl, x], argTypes := #[31, 31] }) (h : St c deep box acc room full fx s (some (v, ss)) rn w) (hx0 : IsStrs c.w0 c.xa c.xl c.xc c.xs)
    (hs : a.eval sl = .slice (some ⟨g, 0, none⟩) 0 0) (hv : .slice (some ⟨g, 0, none⟩) 0 0 = v) (hx : a.eval x = .slice c.xa c.xl c.xc) (hb : ss.length + c.xl ≤ 100000)
    (hk : ∀ v' w', St c deep box acc room full fx s (some (v', ss ++ c.xs)) rn w' → K (a.put o.dst v') w') :
    if Region.wanted o (yielded ops a.tmps) = true then Oper.wp Try.prog o a w K Q else E :=
  step_appS hgd sl x ho (h.rA _ rfl).1 (h.strs hx0) (hs.trans hv) hx hb fun v' w' h1 h2 h3 => hk v' w' (h.app h1 h2 h3)
theorem stepN {ops : Array Oper} {o : Oper} {a : Act} {K : Act → World → Prop} {Q : Exit → Act → World → Prop} {E : Prop} {v v0 : Value} {ss : List ByteArray} {n : Nat} (hgd : o.guard = none) (sl x : Operand)
    (ho : o.op = .call { callee := .builtin .append, args := #[sl, x], argTypes := #[31, 31] }) (h : St c deep box acc room full fx s (some (v, ss)) rn w)
    (hs : a.eval sl = v0) (hv : v0 = v) (hx : a.eval x = .slice (some ⟨n, 0, none⟩) 1 1) (hn : rn = some n) (hb : ss.length + 1 ≤ 100000)
    (hk : ∀ v' w', St c deep box acc room full fx s (some (v', ss ++ [⟨#[10]⟩])) rn w' → K (a.put o.dst v') w') :
    if Region.wanted o (yielded ops a.tmps) = true then Oper.wp Try.prog o a w K Q else E :=
  step_appS hgd sl x ho (h.rA _ rfl).1 (h.nl n hn) (hs.trans hv) hx hb fun v' w' h1 h2 h3 => hk v' w' (h.app h1 h2 h3)
end
theorem ok_room {full : Bool} {room n : Nat} {ok : Bool} (h : ok = (!full && decide (n ≤ room))) (e : ok = true) : n ≤ room := by
  rw [e] at h
  have := h.symm
  simp at this
  exact this.2
theorem small_app {ls : List ByteArray} (h : ∀ x ∈ ls, x.size ≤ maxLen) (a : List ByteArray) (ha : ∀ x ∈ a, x.size ≤ maxLen) : ∀ x ∈ a ++ ls, x.size ≤ maxLen := fun x hx => (List.mem_append.1 hx).elim (ha x) (h x)
theorem small_rep (n : Nat) : ∀ x ∈ List.replicate n (⟨#[32, 32]⟩ : ByteArray), x.size ≤ maxLen := fun x hx => by
  rw [(List.mem_replicate.1 hx).2]; decide
theorem small_nl : ∀ x ∈ [(⟨#[10]⟩ : ByteArray)], x.size ≤ maxLen := by simp; decide
set_option maxRecDepth 100000 in
set_option maxHeartbeats 3200000 in
theorem do_begin (c : Con) {deep : Nat} {acc : List UInt8} {room : Nat} {full : Bool} {s : ByteArray} {w : World} (M : Nat) (h : Pl c deep acc room full full s w) (hx : IsStrs c.w0 c.xa c.xl c.xc c.xs) (hs : s.data.toList = acc) (hra : room + acc.length = M) (hM : (M : Int) = max c.most 0) (hM2 : M ≤ maxLen)
    (hk0 : -9223372036854775808 ≤ c.kind) (hk1 : c.kind ≤ 9223372036854775807) (hn : c.xl ≤ 20) (hd : deep ≤ 100) (hl : acc.length + (flat c.xs).length ≤ 100000) (hr : c.kind % 7 = 4) :
    Calls Try.prog 11 #[.pointer (some ⟨c.q, 0, none⟩), .pointer (some ⟨c.p, 0, none⟩), .agg #[.int .i64 c.kind, .slice c.xa c.xl c.xc]] w fun e w' => e = .returned (.bool true) ∧ Nx c M deep (acc.length + (2 * deep + (flat c.xs).length)) w' := by
  have ST0 := Lib.hid (st_box h)
  have hsz : s.size = acc.length := by rw [← len_size, hs]
  have HX := Lib.hid hx
  have hsm := hx.2.2.2.1
  obtain ⟨ok, hok⟩ : ∃ ok : Bool, ok = (!full && decide ((2 * deep + (flat c.xs).length) ≤ room)) := ⟨_, rfl⟩
  have hfl : flat (List.replicate deep ⟨#[32, 32]⟩ ++ c.xs) = (List.replicate (2 * deep) 32 ++ flat c.xs) := by
    rw [flat_app, flat_rep]
  have hfn : ((List.replicate (2 * deep) 32 ++ flat c.xs) : List UInt8).length = (2 * deep + (flat c.xs).length) := by simp
  have hok2 : ok = (!full && decide (s.size + (flat (List.replicate deep ⟨#[32, 32]⟩ ++ c.xs)).length ≤ M)) := by
    rw [hok, hfl, hfn]
    congr 1
    rw [decide_eq_decide]
    omega
  have HR := Lib.hid hr
  have C1 : Hid (∀ W ra rn, St c deep w.heap.size acc room full full s ra rn W → Calls Try.prog 18 #[.pointer (some ⟨c.q, 0, none⟩), .slice c.xa c.xl c.xc] W fun e w' => e = .returned (.bool ok) ∧ St c deep w.heap.size (if ok then acc ++ (List.replicate (2 * deep) 32 ++ flat c.xs) else acc) (if ok then room - (2 * deep + (flat c.xs).length) else room) (!ok) full s ra rn w') :=
    Lib.hid (fun W ra rn hW => beginSt hW hx hn hd hl (by omega) ok hok)
  have C2 : Hid (∀ W ra rn, St c deep w.heap.size (if ok then acc ++ (List.replicate (2 * deep) 32 ++ flat c.xs) else acc) (if ok then room - (2 * deep + (flat c.xs).length) else room) (!ok) full s ra rn W → Calls Try.prog 23 #[.pointer (some ⟨c.p, 0, none⟩), .slice c.xa c.xl c.xc] W fun e w' => ∃ v, e = .returned v ∧ St c deep w.heap.size (if ok then acc ++ (List.replicate (2 * deep) 32 ++ flat c.xs) else acc) (if ok then room - (2 * deep + (flat c.xs).length) else room) (!ok) full s (some (v, List.replicate deep ⟨#[32, 32]⟩ ++ c.xs)) rn w') :=
    Lib.hid (fun W ra rn hW => marginSt hW hx hd hn)
  have C3 : Hid (∀ W v rn, St c deep w.heap.size (if ok then acc ++ (List.replicate (2 * deep) 32 ++ flat c.xs) else acc) (if ok then room - (2 * deep + (flat c.xs).length) else room) (!ok) full s (some (v, (List.replicate deep ⟨#[32, 32]⟩ ++ c.xs))) rn W → Calls Try.prog 22 #[.pointer (some ⟨c.p, 0, none⟩), v] W fun e w' => e = .returned (.bool ok) ∧ Nx c M deep (acc.length + (2 * deep + (flat c.xs).length)) w' ∧ w'.cell? ⟨w.heap.size, 1, none⟩ = some (.slice c.xa c.xl c.xc)) :=
    Lib.hid (fun W v rn hW => (rputOwn hW (by exact small_app hsm _ (small_rep _)) (by rw [hfl, hfn]; omega) M hM ok hok2).mono (by
      rintro e w' ⟨rfl, t, h1, h2⟩
      rw [hfl] at h2
      exact ⟨rfl, nx_fin h1 hfn hs h2 hra (ok_room hok), h1.cell⟩))
  have hxl : List.length c.xs = c.xl := hx.1
  clear h hs hra hM hl hr hok hok2 hsz hfl hfn hsm hx
  go_enter Try.func11, Try.ntmps11
  go_wp2_with fail
  refine (pick_any c.kind 7 _ hk0 hk1 (by decide) (by decide)).mono ?_
  rw [HR.out]
  rintro e w1 ⟨rfl, rfl⟩
  clear hk0 hk1
  generalize hW1 : (w.alloc (.cells #[.int .i64 c.kind, .slice c.xa c.xl c.xc] 33)) = w1 at ST0 ⊢
  clear hW1
  go_wp2_with fail
  have hc := ST0.out.drew.cell
  go_region_held3 (fun w' => w'.cell? ⟨w.heap.size, 1, none⟩ = some (.slice c.xa c.xl c.xc)) (first | exact hc | with_reducible exact ST0.out.drew.cell | with_reducible exact st6.out.cell | with_reducible exact st8.out.cell | with_reducible exact st9.out.cell | assumption)
    (first
      | (go_at_call 18; with_reducible refine (C1.out _ _ _ ST0.out.drew).mono ?_; rintro e w6 ⟨rfl, s6⟩; have st6 := Lib.hid s6; clear s6)
      | (go_at_call 23; with_reducible refine (C2.out _ _ _ st6.out).mono ?_; rintro e w8 ⟨v8, rfl, s8⟩; have st8 := Lib.hid s8; clear s8)
      | (go_at_call 22; with_reducible refine (C3.out _ _ _ st8.out).mono ?_; rintro e w7 ⟨rfl, n7, c7⟩; have N7 := Lib.hid n7; clear n7))
  all_goals
    go_wp2_with fail
    go_ret
    exact ⟨by simp, N7.out⟩
set_option maxRecDepth 100000 in
set_option maxHeartbeats 3200000 in
theorem do_line (c : Con) {deep : Nat} {acc : List UInt8} {room : Nat} {full : Bool} {s : ByteArray} {w : World} (M : Nat) (h : Pl c deep acc room full full s w) (hx : IsStrs c.w0 c.xa c.xl c.xc c.xs) (hs : s.data.toList = acc) (hra : room + acc.length = M) (hM : (M : Int) = max c.most 0) (hM2 : M ≤ maxLen)
    (hk0 : -9223372036854775808 ≤ c.kind) (hk1 : c.kind ≤ 9223372036854775807) (hn : c.xl ≤ 20) (hd : deep ≤ 100) (hl : acc.length + (flat c.xs).length ≤ 100000) (hr : c.kind % 7 = 6) :
    Calls Try.prog 11 #[.pointer (some ⟨c.q, 0, none⟩), .pointer (some ⟨c.p, 0, none⟩), .agg #[.int .i64 c.kind, .slice c.xa c.xl c.xc]] w fun e w' => e = .returned (.bool true) ∧ Nx c M deep (acc.length + (2 * deep + ((flat c.xs).length + 1))) w' := by
  have ST0 := Lib.hid (st_box h)
  have hsz : s.size = acc.length := by rw [← len_size, hs]
  have HX := Lib.hid hx
  have hsm := hx.2.2.2.1
  obtain ⟨ok, hok⟩ : ∃ ok : Bool, ok = (!full && decide ((2 * deep + ((flat c.xs).length + 1)) ≤ room)) := ⟨_, rfl⟩
  have hfl : flat (List.replicate deep ⟨#[32, 32]⟩ ++ c.xs ++ [⟨#[10]⟩]) = (List.replicate (2 * deep) 32 ++ (flat c.xs ++ [10])) := by
    rw [flat_app, flat_app, flat_rep, List.append_assoc]; rfl
  have hfn : ((List.replicate (2 * deep) 32 ++ (flat c.xs ++ [10])) : List UInt8).length = (2 * deep + ((flat c.xs).length + 1)) := by simp
  have hok2 : ok = (!full && decide (s.size + (flat (List.replicate deep ⟨#[32, 32]⟩ ++ c.xs ++ [⟨#[10]⟩])).length ≤ M)) := by
    rw [hok, hfl, hfn]
    congr 1
    rw [decide_eq_decide]
    omega
  have HR := Lib.hid hr
  have C1 : Hid (∀ W ra rn, St c deep w.heap.size acc room full full s ra rn W → Calls Try.prog 17 #[.pointer (some ⟨c.q, 0, none⟩), .slice c.xa c.xl c.xc] W fun e w' => e = .returned (.bool ok) ∧ St c deep w.heap.size (if ok then acc ++ (List.replicate (2 * deep) 32 ++ (flat c.xs ++ [10])) else acc) (if ok then room - (2 * deep + ((flat c.xs).length + 1)) else room) (!ok) full s ra rn w') :=
    Lib.hid (fun W ra rn hW => lineSt hW hx hn hd hl (by omega) ok hok)
  have C2 : Hid (∀ W ra rn, St c deep w.heap.size (if ok then acc ++ (List.replicate (2 * deep) 32 ++ (flat c.xs ++ [10])) else acc) (if ok then room - (2 * deep + ((flat c.xs).length + 1)) else room) (!ok) full s ra rn W → Calls Try.prog 23 #[.pointer (some ⟨c.p, 0, none⟩), .slice c.xa c.xl c.xc] W fun e w' => ∃ v, e = .returned v ∧ St c deep w.heap.size (if ok then acc ++ (List.replicate (2 * deep) 32 ++ (flat c.xs ++ [10])) else acc) (if ok then room - (2 * deep + ((flat c.xs).length + 1)) else room) (!ok) full s (some (v, List.replicate deep ⟨#[32, 32]⟩ ++ c.xs)) rn w') :=
    Lib.hid (fun W ra rn hW => marginSt hW hx hd hn)
  have C3 : Hid (∀ W v rn, St c deep w.heap.size (if ok then acc ++ (List.replicate (2 * deep) 32 ++ (flat c.xs ++ [10])) else acc) (if ok then room - (2 * deep + ((flat c.xs).length + 1)) else room) (!ok) full s (some (v, (List.replicate deep ⟨#[32, 32]⟩ ++ c.xs ++ [⟨#[10]⟩]))) rn W → Calls Try.prog 22 #[.pointer (some ⟨c.p, 0, none⟩), v] W fun e w' => e = .returned (.bool ok) ∧ Nx c M deep (acc.length + (2 * deep + ((flat c.xs).length + 1))) w' ∧ w'.cell? ⟨w.heap.size, 1, none⟩ = some (.slice c.xa c.xl c.xc)) :=
    Lib.hid (fun W v rn hW => (rputOwn hW (by exact small_app small_nl _ (small_app hsm _ (small_rep _))) (by rw [hfl, hfn]; omega) M hM ok hok2).mono (by
      rintro e w' ⟨rfl, t, h1, h2⟩
      rw [hfl] at h2
      exact ⟨rfl, nx_fin h1 hfn hs h2 hra (ok_room hok), h1.cell⟩))
  have hxl : List.length c.xs = c.xl := hx.1
  clear h hs hra hM hl hr hok hok2 hsz hfl hfn hsm hx
  go_enter Try.func11, Try.ntmps11
  go_wp2_with fail
  refine (pick_any c.kind 7 _ hk0 hk1 (by decide) (by decide)).mono ?_
  rw [HR.out]
  rintro e w1 ⟨rfl, rfl⟩
  clear hk0 hk1
  generalize hW1 : (w.alloc (.cells #[.int .i64 c.kind, .slice c.xa c.xl c.xc] 33)) = w1 at ST0 ⊢
  clear hW1
  go_wp2_with fail
  have hc := ST0.out.drew.cell
  go_region_held3 (fun w' => w'.cell? ⟨w.heap.size, 1, none⟩ = some (.slice c.xa c.xl c.xc)) (first | exact hc | with_reducible exact ST0.out.drew.cell | with_reducible exact ST0.out.lit1.drew.cell | with_reducible exact st6.out.cell | with_reducible exact st6.out.lit1.cell | with_reducible exact st8.out.cell | with_reducible exact st8.out.lit1.cell | with_reducible exact st9.out.cell | with_reducible exact st9.out.lit1.cell | assumption)
    (first
      | (go_at_call 17; with_reducible refine (C1.out _ _ _ ST0.out.drew).mono ?_; rintro e w6 ⟨rfl, s6⟩; have st6 := Lib.hid s6; clear s6)
      | (go_at_call 17; with_reducible refine (C1.out _ _ _ ST0.out.lit1.drew).mono ?_; rintro e w6 ⟨rfl, s6⟩; have st6 := Lib.hid s6; clear s6)
      | (go_at_call 23; with_reducible refine (C2.out _ _ _ st6.out).mono ?_; rintro e w8 ⟨v8, rfl, s8⟩; have st8 := Lib.hid s8; clear s8)
      | (go_at_call 23; with_reducible refine (C2.out _ _ _ st6.out.lit1).mono ?_; rintro e w8 ⟨v8, rfl, s8⟩; have st8 := Lib.hid s8; clear s8)
      | (refine stepN rfl (.tmp 72) (.tmp 73) rfl st8.out rfl (by first | rfl | simp) rfl (by first | rfl | simp) (by simp; omega) ?_; intro v9 w9 s9; have st9 := Lib.hid s9; clear s9)
      | (refine stepN rfl (.tmp 72) (.tmp 73) rfl st8.out.lit1 rfl (by first | rfl | simp) rfl (by first | rfl | simp) (by simp; omega) ?_; intro v9 w9 s9; have st9 := Lib.hid s9; clear s9)
      | (go_at_call 22; with_reducible refine (C3.out _ _ _ st9.out).mono ?_; rintro e w7 ⟨rfl, n7, c7⟩; have N7 := Lib.hid n7; clear n7))
  all_goals
    go_wp2_with fail
    go_ret
    exact ⟨by simp, N7.out⟩
set_option maxRecDepth 100000 in
set_option maxHeartbeats 3200000 in
theorem do_end (c : Con) {deep : Nat} {acc : List UInt8} {room : Nat} {full : Bool} {s : ByteArray} {w : World} (M : Nat) (h : Pl c deep acc room full full s w) (hx : IsStrs c.w0 c.xa c.xl c.xc c.xs) (hs : s.data.toList = acc) (hra : room + acc.length = M) (hM : (M : Int) = max c.most 0) (hM2 : M ≤ maxLen)
    (hk0 : -9223372036854775808 ≤ c.kind) (hk1 : c.kind ≤ 9223372036854775807) (hn : c.xl ≤ 20) (hd : deep ≤ 100) (hl : acc.length + (flat c.xs).length ≤ 100000) (hr : c.kind % 7 = 5) :
    Calls Try.prog 11 #[.pointer (some ⟨c.q, 0, none⟩), .pointer (some ⟨c.p, 0, none⟩), .agg #[.int .i64 c.kind, .slice c.xa c.xl c.xc]] w fun e w' => e = .returned (.bool true) ∧ Nx c M deep (acc.length + ((flat c.xs).length + 1)) w' := by
  have ST0 := Lib.hid (st_box h)
  have hsz : s.size = acc.length := by rw [← len_size, hs]
  have HX := Lib.hid hx
  have hsm := hx.2.2.2.1
  obtain ⟨ok, hok⟩ : ∃ ok : Bool, ok = (!full && decide (((flat c.xs).length + 1) ≤ room)) := ⟨_, rfl⟩
  have hfl : flat ([] ++ c.xs ++ [⟨#[10]⟩]) = (flat c.xs ++ [10]) := by
    rw [flat_app, flat_app]; rfl
  have hfn : ((flat c.xs ++ [10]) : List UInt8).length = ((flat c.xs).length + 1) := by simp
  have hok2 : ok = (!full && decide (s.size + (flat ([] ++ c.xs ++ [⟨#[10]⟩])).length ≤ M)) := by
    rw [hok, hfl, hfn]
    congr 1
    rw [decide_eq_decide]
    omega
  have HR := Lib.hid hr
  have C1 : Hid (∀ W ra rn, St c deep w.heap.size acc room full full s ra rn W → Calls Try.prog 19 #[.pointer (some ⟨c.q, 0, none⟩), .slice c.xa c.xl c.xc] W fun e w' => e = .returned (.bool ok) ∧ St c deep w.heap.size (if ok then acc ++ (flat c.xs ++ [10]) else acc) (if ok then room - ((flat c.xs).length + 1) else room) (!ok) full s ra rn w') :=
    Lib.hid (fun W ra rn hW => endSt hW hx hn hd hl (by omega) ok hok)
  have C2 : Hid (∀ W ra rn, St c deep w.heap.size (if ok then acc ++ (flat c.xs ++ [10]) else acc) (if ok then room - ((flat c.xs).length + 1) else room) (!ok) full s ra rn W → Calls Try.prog 23 #[.pointer (some ⟨c.p, 0, none⟩), .slice c.xa c.xl c.xc] W fun e w' => ∃ v, e = .returned v ∧ St c deep w.heap.size (if ok then acc ++ (flat c.xs ++ [10]) else acc) (if ok then room - ((flat c.xs).length + 1) else room) (!ok) full s (some (v, List.replicate deep ⟨#[32, 32]⟩ ++ c.xs)) rn w') :=
    Lib.hid (fun W ra rn hW => marginSt hW hx hd hn)
  have C3 : Hid (∀ W v rn, St c deep w.heap.size (if ok then acc ++ (flat c.xs ++ [10]) else acc) (if ok then room - ((flat c.xs).length + 1) else room) (!ok) full s (some (v, ([] ++ c.xs ++ [⟨#[10]⟩]))) rn W → Calls Try.prog 22 #[.pointer (some ⟨c.p, 0, none⟩), v] W fun e w' => e = .returned (.bool ok) ∧ Nx c M deep (acc.length + ((flat c.xs).length + 1)) w' ∧ w'.cell? ⟨w.heap.size, 1, none⟩ = some (.slice c.xa c.xl c.xc)) :=
    Lib.hid (fun W v rn hW => (rputOwn hW (by exact small_app small_nl _ (small_app hsm _ (by simp))) (by rw [hfl, hfn]; omega) M hM ok hok2).mono (by
      rintro e w' ⟨rfl, t, h1, h2⟩
      rw [hfl] at h2
      exact ⟨rfl, nx_fin h1 hfn hs h2 hra (ok_room hok), h1.cell⟩))
  have hxl : List.length c.xs = c.xl := hx.1
  clear h hs hra hM hl hr hok hok2 hsz hfl hfn hsm hx
  go_enter Try.func11, Try.ntmps11
  go_wp2_with fail
  refine (pick_any c.kind 7 _ hk0 hk1 (by decide) (by decide)).mono ?_
  rw [HR.out]
  rintro e w1 ⟨rfl, rfl⟩
  clear hk0 hk1
  generalize hW1 : (w.alloc (.cells #[.int .i64 c.kind, .slice c.xa c.xl c.xc] 33)) = w1 at ST0 ⊢
  clear hW1
  go_wp2_with fail
  have hc := ST0.out.drew.cell
  go_region_held3 (fun w' => w'.cell? ⟨w.heap.size, 1, none⟩ = some (.slice c.xa c.xl c.xc)) (first | exact hc | with_reducible exact ST0.out.drew.cell | with_reducible exact ST0.out.lit0.drew.cell | with_reducible exact ST0.out.lit1.drew.cell | with_reducible exact ST0.out.lit0.lit1.drew.cell | with_reducible exact ST0.out.lit1.lit0.drew.cell | with_reducible exact st6.out.cell | with_reducible exact st6.out.lit0.cell | with_reducible exact st6.out.lit1.cell | with_reducible exact st6.out.lit0.lit1.cell | with_reducible exact st6.out.lit1.lit0.cell | with_reducible exact st8.out.cell | with_reducible exact st8.out.lit0.cell | with_reducible exact st8.out.lit1.cell | with_reducible exact st8.out.lit0.lit1.cell | with_reducible exact st8.out.lit1.lit0.cell | with_reducible exact st9.out.cell | with_reducible exact st9.out.lit0.cell | with_reducible exact st9.out.lit1.cell | with_reducible exact st9.out.lit0.lit1.cell | with_reducible exact st9.out.lit1.lit0.cell | assumption)
    (first
      | (go_at_call 19; with_reducible refine (C1.out _ _ _ ST0.out.drew).mono ?_; rintro e w6 ⟨rfl, s6⟩; have st6 := Lib.hid s6; clear s6)
      | (go_at_call 19; with_reducible refine (C1.out _ _ _ ST0.out.lit0.drew).mono ?_; rintro e w6 ⟨rfl, s6⟩; have st6 := Lib.hid s6; clear s6)
      | (go_at_call 19; with_reducible refine (C1.out _ _ _ ST0.out.lit1.drew).mono ?_; rintro e w6 ⟨rfl, s6⟩; have st6 := Lib.hid s6; clear s6)
      | (go_at_call 19; with_reducible refine (C1.out _ _ _ ST0.out.lit0.lit1.drew).mono ?_; rintro e w6 ⟨rfl, s6⟩; have st6 := Lib.hid s6; clear s6)
      | (go_at_call 19; with_reducible refine (C1.out _ _ _ ST0.out.lit1.lit0.drew).mono ?_; rintro e w6 ⟨rfl, s6⟩; have st6 := Lib.hid s6; clear s6)
      | (refine stepL rfl (.tmp 54) (.tmp 56) rfl st6.out HX.out rfl (by first | rfl | simp) rfl (by simp; omega) ?_; intro v8 w8 s8; have st8 := Lib.hid s8; clear s8)
      | (refine stepL rfl (.tmp 54) (.tmp 56) rfl st6.out.lit0 HX.out rfl (by first | rfl | simp) rfl (by simp; omega) ?_; intro v8 w8 s8; have st8 := Lib.hid s8; clear s8)
      | (refine stepL rfl (.tmp 54) (.tmp 56) rfl st6.out.lit1 HX.out rfl (by first | rfl | simp) rfl (by simp; omega) ?_; intro v8 w8 s8; have st8 := Lib.hid s8; clear s8)
      | (refine stepL rfl (.tmp 54) (.tmp 56) rfl st6.out.lit0.lit1 HX.out rfl (by first | rfl | simp) rfl (by simp; omega) ?_; intro v8 w8 s8; have st8 := Lib.hid s8; clear s8)
      | (refine stepL rfl (.tmp 54) (.tmp 56) rfl st6.out.lit1.lit0 HX.out rfl (by first | rfl | simp) rfl (by simp; omega) ?_; intro v8 w8 s8; have st8 := Lib.hid s8; clear s8)
      | (refine stepN rfl (.tmp 57) (.tmp 58) rfl st8.out rfl (by first | rfl | simp) rfl (by first | rfl | simp) (by simp; omega) ?_; intro v9 w9 s9; have st9 := Lib.hid s9; clear s9)
      | (refine stepN rfl (.tmp 57) (.tmp 58) rfl st8.out.lit1 rfl (by first | rfl | simp) rfl (by first | rfl | simp) (by simp; omega) ?_; intro v9 w9 s9; have st9 := Lib.hid s9; clear s9)
      | (go_at_call 22; with_reducible refine (C3.out _ _ _ st9.out).mono ?_; rintro e w7 ⟨rfl, n7, c7⟩; have N7 := Lib.hid n7; clear n7))
  all_goals
    go_wp2_with fail
    go_ret
    exact ⟨by simp, N7.out⟩
end Go.Proofs.Ytinamdmefbmnnaa
