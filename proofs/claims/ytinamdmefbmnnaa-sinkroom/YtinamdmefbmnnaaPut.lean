/-
  builder.add and Put, walked.
-/
import Derived.Test.YtinamdmefbmnnaaSmp
namespace Go.Proofs.Ytinamdmefbmnnaa
open Go.RowKit

def IsStrs (w : World) (a : Option Addr) (len cap : Nat) (ss : List ByteArray) : Prop :=
  ss.length = len ∧ len ≤ cap ∧ cap ≤ maxLen ∧ (∀ x ∈ ss, x.size ≤ maxLen) ∧ (len = 0 ∨ ∃ b o, a = some ⟨b, o, none⟩ ∧ b < w.heap.size ∧ ∀ j x, ss[j]? = some x → w.cell? ⟨b, o + j, none⟩ = some (.string x))
theorem cell_eq {w w' : World} {b o : Nat} (h : w'.heap[b]? = w.heap[b]?) : w'.cell? ⟨b, o, none⟩ = w.cell? ⟨b, o, none⟩ := by
  unfold World.cell?
  simp only [h]
theorem IsStrs.kept {w w' : World} {a : Option Addr} {len cap : Nat} {ss : List ByteArray} (h : IsStrs w a len cap ss) (hs : w.heap.size ≤ w'.heap.size) (hb : ∀ b o, a = some ⟨b, o, none⟩ → b < w.heap.size → w'.heap[b]? = w.heap[b]?) : IsStrs w' a len cap ss := by
  obtain ⟨h1, h2, h3, h4, h5⟩ := h
  refine ⟨h1, h2, h3, h4, ?_⟩
  rcases h5 with h5 | ⟨b, o, e, hl, hc⟩
  · exact .inl h5
  · exact .inr ⟨b, o, e, by omega, fun j x hx => (cell_eq (hb b o e hl)).trans (hc j x hx)⟩
theorem IsStrs.below {w w' : World} {a : Option Addr} {len cap : Nat} {ss : List ByteArray} (h : IsStrs w a len cap ss) (hb : Below w.heap.size w w') : IsStrs w' a len cap ss :=
  h.kept hb.size fun b _ _ hl => hb.block b hl
/-- Texts that stand in no block of the sink's. -/
structure Parts (w : World) (q : Nat) (a : Option Addr) (len cap : Nat) (ss : List ByteArray) : Prop where
  strs : IsStrs w a len cap ss
  ap : len ≠ 0 → ∀ b o, a = some ⟨b, o, none⟩ → ¬ Mine w q b
theorem Parts.did {w w' : World} {a : Option Addr} {len cap q : Nat} {ss : List ByteArray} (h : Parts w q a len cap ss) (hb : Did q w w') : Parts w' q a len cap ss := by
  obtain ⟨⟨h1, h2, h3, h4, h5⟩, h6⟩ := h
  rcases h5 with h5 | ⟨b, o, rfl, hl, hc⟩
  · exact ⟨⟨h1, h2, h3, h4, .inl h5⟩, fun h => absurd h5 h⟩
  · by_cases h0 : len = 0
    · exact ⟨⟨h1, h2, h3, h4, .inl h0⟩, fun h => absurd h0 h⟩
    · have hn := h6 h0 b o rfl
      refine ⟨⟨h1, h2, h3, h4, .inr ⟨b, o, rfl, Nat.lt_of_lt_of_le hl hb.size, fun j x hx => (cell_eq (hb.block b hl hn)).trans (hc j x hx)⟩⟩, ?_⟩
      intro _ b' o' e hm
      cases e
      rcases hb.mine b hm with h | h
      · exact hn h
      · omega

/-- All texts, one behind the other. -/
def flat (ss : List ByteArray) : List UInt8 := (ss.map (·.data.toList)).flatten
theorem flat_nil : flat [] = [] := rfl
theorem flat_cons (x : ByteArray) (r : List ByteArray) : flat (x :: r) = x.data.toList ++ flat r := rfl
theorem flat_app (a b : List ByteArray) : flat (a ++ b) = flat a ++ flat b := by simp [flat]
theorem len_size (s : ByteArray) : s.data.toList.length = s.size := by simp
theorem flat_take {ss : List ByteArray} {k : Nat} {x : ByteArray} (h : ss[k]? = some x) : flat (ss.take (k + 1)) = flat (ss.take k) ++ x.data.toList := by
  rw [List.take_add_one, h, flat_app]
  simp [flat]
theorem flat_le (ss : List ByteArray) (k : Nat) : (flat (ss.take k)).length ≤ (flat ss).length := by
  have h := congrArg List.length (flat_app (ss.take k) (ss.drop k))
  rw [List.take_append_drop, List.length_append] at h
  omega
theorem flat_le2 {ss : List ByteArray} {k : Nat} {x : ByteArray} (h : ss[k]? = some x) : (flat (ss.take k)).length + x.size ≤ (flat ss).length := by
  have h1 := flat_le ss (k + 1)
  rw [flat_take h, List.length_append, len_size] at h1
  exact h1

theorem info5 : (Try.prog.info? 5).map (fun i => (i.zero, i.size, i.bytes)) = some (some (.int .u8 0), 1, 1) := by kernel_rfl
/-- Where the longer text lies: where the old one lay, or in a new block. -/
theorem app_loc {w : World} {v : Value} {n : Nat} {xs : List Value} (ty : TypeId) (hown : w.ownsRow 0 5 1 v n xs) (s : ByteArray) (hl : n + s.size ≤ 1000000) {v' : Value} {w' : World}
    (hr : (Builtin.append_ #[42, 9] ty #[v, .string s]).run Try.prog w = .ok v' w') : v'.ownBlock = v.ownBlock ∨ ∃ k, v'.ownBlock = some k ∧ w.heap.size ≤ k := by
  obtain ⟨i, hi, hz0, hz1, hz2⟩ := info_parts info5
  have hxl : xs.length = n := by simpa using hown.1
  rcases hown.2 with ⟨rfl, rfl⟩ | ⟨g, cap, cur, rfl, _, hg, hnc, hcm, hcs, htake⟩
  · have hx : xs = [] := List.eq_nil_of_length_eq_zero hxl
    subst hx
    obtain ⟨v2, w2, hr2, ho2, _⟩ := Lib.run_append_own_string (P := Try.prog) w w.heap.size 42 9 ty 5 i Try.underlying42 Try.underlying9 hi hz0 hz1 hz2 (.slice none 0 0) 0 [] (World.ownsRow_nil _ _ _ _) s (by unfold maxLen; omega) (by omega) (Nat.le_refl _)
    rw [hr] at hr2
    cases hr2
    rcases ho2.2 with ⟨rfl, _⟩ | ⟨g, cap, cur, rfl, hb, _⟩
    · exact .inl rfl
    · exact .inr ⟨g, rfl, hb⟩
  · by_cases hroom : n + s.size ≤ cap
    · have hr2 := Lib.run_append_room_string (P := Try.prog) w 42 9 ty 5 i Try.underlying42 Try.underlying9 hi hz1 g n cap cur hg s hroom (by omega)
      rw [hr] at hr2
      cases hr2
      exact .inl rfl
    · have hr2 := Lib.run_append_grow_string (P := Try.prog) w 42 9 ty 5 i (.int .u8 0) Try.underlying42 Try.underlying9 hi hz0 ⟨g, 0, none⟩ n cap xs (by rw [hz1]; simpa using hxl) (hown.cells (g := g) rfl) s (by omega) (by omega) (by rw [hz2]; exact growslice_fits (by omega) (by omega))
      rw [hr] at hr2
      cases hr2
      exact .inr ⟨w.heap.size, rfl, Nat.le_refl _⟩
theorem wp_app {ops : Array Oper} {rest : List Oper} {o : Oper} {a : Act} {Q : Exit → Act → World → Prop} (hgd : o.guard = none) (sl x : Operand)
    (ho : o.op = .call { callee := .builtin .append, args := #[sl, x], argTypes := #[42, 9] })
    {w : World} {v : Value} {acc : List UInt8} (s : ByteArray) (hown : w.ownsRow 0 5 1 v acc.length (Lib.byteCells acc)) (hs : a.eval sl = v) (hx : a.eval x = .string s) (hl : acc.length + s.size ≤ 1000000)
    (hk : ∀ v' w', w'.ownsRow 0 5 1 v' (acc ++ s.data.toList).length (Lib.byteCells (acc ++ s.data.toList)) → w.grownBy w' v.ownBlock → (v'.ownBlock = v.ownBlock ∨ ∃ k, v'.ownBlock = some k ∧ w.heap.size ≤ k) → wpList Try.prog ops Q rest (a.put o.dst v') w') :
    wpList Try.prog ops Q (o :: rest) a w := by
  obtain ⟨i, hi, hz0, hz1, hz2⟩ := info_parts info5
  refine wpList_plain hgd fun K hK => ?_
  obtain ⟨v', w', hr, h2, h3, _⟩ := Lib.run_append_own_string (P := Try.prog) w 0 42 9 o.type 5 i Try.underlying42 Try.underlying9 hi hz0 hz1 hz2 v acc.length (Lib.byteCells acc) hown s (by unfold maxLen; omega) (by omega) (Nat.zero_le _)
  have hloc := app_loc o.type hown s hl hr
  unfold Oper.wp execOp
  simp only [ho, resolve, invoke, builtin, Sem.run_bind, Sem.run_pure, Result.andThen_ok, List.map_toArray, List.map_cons, List.map_nil, hs, hx, hr]
  refine hK _ _ (hk v' w' ?_ h3 hloc)
  rw [Lib.byteCells_append, List.length_append, len_size]
  exact h2
theorem stored {w w' : World} {q : Nat} {v v' : Value} {acc' : List UInt8} {room deep : Nat} {full : Bool} (h1 : w.heap[q]? = some (.cells #[v, .int .i64 (room : Nat), .int .i64 (deep : Nat), .bool full] 46))
    (h3 : v.ownBlock ≠ some q) (o : w'.ownsRow 0 5 1 v' acc'.length (Lib.byteCells acc')) (g : w.grownBy w' v.ownBlock) (l : v'.ownBlock = v.ownBlock ∨ ∃ k, v'.ownBlock = some k ∧ w.heap.size ≤ k) :
    SinkAt (w'.setCell ⟨q, 0, none⟩ v') q acc' room deep full ∧ Did q w (w'.setCell ⟨q, 0, none⟩ v') := by
  have hq := heap_lt h1
  have e : w'.heap[q]? = some (.cells #[v, .int .i64 (room : Nat), .int .i64 (deep : Nat), .bool full] 46) := (g.block q hq (fun e => h3 e.symm)).trans h1
  have e2 : (w'.setCell ⟨q, 0, none⟩ v').heap[q]? = some (.cells #[v', .int .i64 (room : Nat), .int .i64 (deep : Nat), .bool full] 46) := by simpa using heap_set (o := 0) e v'
  have h4 : v'.ownBlock ≠ some q := by
    rcases l with l | ⟨k, l, hk⟩
    · rw [l]; exact h3
    · rw [l]; intro e; cases e; omega
  refine ⟨⟨v', e2, own_set o h4 _ _, h4⟩, g.os, g.tape, g.output, ?_, ?_, ?_⟩
  · show w.heap.size ≤ (w'.setCell ⟨q, 0, none⟩ v').heap.size
    simpa [World.setCell] using g.size
  · intro k hk hm
    rw [mine_of h1] at hm
    refine (Below.heap_setCell _ _ _ _ (fun e => hm (.inl e))).trans (g.block k hk (fun e => hm (.inr e.symm)))
  · intro k hm
    rw [mine_of e2] at hm
    rw [mine_of h1]
    rcases hm with rfl | hm
    · exact .inl (.inl rfl)
    · rcases l with l | ⟨k2, l, hk⟩
      · rw [l] at hm; exact .inl (.inr hm)
      · rw [l] at hm; cases hm; exact .inr hk
set_option maxHeartbeats 800000 in
theorem add_any {w : World} {q : Nat} {acc : List UInt8} {room deep : Nat} {full : Bool} (h : SinkAt w q acc room deep full) {a : Option Addr} {len cap : Nat} {ss : List ByteArray} (hS : Parts w q a len cap ss)
    (hl : acc.length + (flat ss).length ≤ 1000000) :
    Calls Try.prog 24 #[.pointer (some ⟨q, 0, none⟩), .slice a len cap] w fun e w' => e = .returned (.tuple #[]) ∧ SinkAt w' q (acc ++ flat ss) room deep full ∧ Did q w w' := by
  have HS := Lib.hid hS
  have HA := Lib.hid h
  have hcap : len ≤ maxLen := by have := hS.strs.2.1; have := hS.strs.2.2.1; omega
  unfold maxLen at hcap
  have HL := Lib.hid hS.strs.1
  clear hS h
  go_enter Try.func24, Try.ntmps24
  go_wp2_with fail
  go_loopw [8] (fun i wr => ∃ k : Nat, i = .int .i64 k ∧ k ≤ len ∧ SinkAt wr q (acc ++ flat (ss.take k)) room deep full ∧ Did q w wr) (fun i _ => len - (intOf i).toNat)
  case atStart => exact ⟨0, rfl, Nat.zero_le _, by simpa [flat_nil] using HA.out, Did.refl _ _⟩
  case round =>
    obtain ⟨k, rfl, hk, hs, hd⟩ := hrel
    have S := Lib.hid hs
    have D := Lib.hid hd
    clear hs hd
    by_cases hlt : k < len
    · obtain ⟨x, hx⟩ : ∃ x, ss[k]? = some x := ⟨ss[k]'(by rw [HL.out]; exact hlt), List.getElem?_eq_getElem _⟩
      rcases (HS.out.did D.out).strs.2.2.2.2 with h0 | ⟨b, o, rfl, hbl, hcell⟩
      · omega
      · have hc := hcell k x hx
        have hfl := flat_le2 hx
        have FT := Lib.hid (flat_take hx)
        clear hcell hx
        obtain ⟨v, h1, h2, h3⟩ := S.out.ex
        have hv : wr.cell? ⟨q, 0, none⟩ = some v := by simp [World.cell?, h1]
        have H1 := Lib.hid h1
        have H2 := Lib.hid h2
        have H3 := Lib.hid h3
        clear h1 h2 h3
        go_wp2_with (at_builtin; refine wp_app rfl (.tmp 16) (.tmp 17) rfl x H2.out rfl rfl (by rw [List.length_append]; omega) ?_)
        intro v' w' o' g' l'
        have hq := H3.out
        have hc1 : w'.cell? ⟨q, 0, none⟩ = some v := (cell_eq (g'.block q (heap_lt H1.out) (fun e => hq e.symm))).trans hv
        have hc2 : w'.frozen? ⟨q, 0, none⟩ = false := by
          have e := (g'.block q (heap_lt H1.out) (fun e => hq e.symm)).trans H1.out
          simp [World.frozen?, e]
        have R := Lib.hid (stored (acc' := acc ++ (flat (ss.take k) ++ x.data.toList)) H1.out hq (by rw [List.length_append, List.length_append, len_size]; exact o') g' l')
        rcases o'.2 with ⟨rfl, _⟩ | ⟨g2, cap2, cur2, rfl, _⟩
        · clear o' g' l' hq hv
          go_wp2_with fail
          go_roundw
          case rel => exact ⟨k + 1, by go_num, by omega, by rw [FT.out]; exact R.out.1, D.out.trans R.out.2⟩
          case measure => simp [intOf]; omega
        · clear o' g' l' hq hv
          go_wp2_with fail
          go_roundw
          case rel => exact ⟨k + 1, by go_num, by omega, by rw [FT.out]; exact R.out.1, D.out.trans R.out.2⟩
          case measure => simp [intOf]; omega
    · have hk2 : k = len := by omega
      subst hk2
      have e : ss.take k = ss := List.take_of_length_le (by rw [HL.out]; omega)
      have S2 : Hid (SinkAt wr q (acc ++ flat ss) room deep full) := Lib.hid (by rw [← e]; exact S.out)
      clear e
      go_wp2_with fail
      go_end0
      exact ⟨rfl, S2.out, D.out⟩

/-- What Put answers. -/
def fits (full : Bool) (room : Nat) (ss : List ByteArray) : Bool := !full && decide ((flat ss).length ≤ room)
set_option maxHeartbeats 800000 in
theorem put_full {w : World} {q : Nat} {acc : List UInt8} {room deep : Nat} (h : SinkAt w q acc room deep true) (a : Option Addr) (len cap : Nat) :
    Calls Try.prog 15 #[.pointer (some ⟨q, 0, none⟩), .slice a len cap] w fun e w' => e = .returned (.bool false) ∧ w' = w := by
  have HA := Lib.hid h
  clear h
  go_enter Try.func15, Try.ntmps15
  go_wp2_with fail
  refine (full_any HA.out).mono ?_
  rintro e w' ⟨rfl, rfl⟩
  go_wp2_with fail
  go_ret
  exact ⟨rfl, rfl⟩
theorem put_nil (w : World) (a : Option Addr) (len cap : Nat) :
    Calls Try.prog 15 #[.pointer none, .slice a len cap] w fun e w' => e = .returned (.bool false) ∧ w' = w := by
  go_enter Try.func15, Try.ntmps15
  go_wp2_with fail
  refine (full_nil _).mono ?_
  rintro e w' ⟨rfl, rfl⟩
  go_wp2_with fail
  go_ret
  exact ⟨rfl, rfl⟩
set_option maxHeartbeats 800000 in
theorem put_open {w : World} {q : Nat} {acc : List UInt8} {room deep : Nat} (h : SinkAt w q acc room deep false) {a : Option Addr} {len cap : Nat} {ss : List ByteArray} (hS : Parts w q a len cap ss)
    (hl : acc.length + (flat ss).length ≤ 1000000) (hr : room ≤ maxLen) (ok : Bool) (hok : ok = decide ((flat ss).length ≤ room)) :
    Calls Try.prog 15 #[.pointer (some ⟨q, 0, none⟩), .slice a len cap] w fun e w' => e = .returned (.bool ok) ∧ (if ok then SinkAt w' q (acc ++ flat ss) (room - (flat ss).length) deep false else SinkAt w' q acc room deep true) ∧ Did q w w' := by
  have HS := Lib.hid hS
  have HA := Lib.hid h
  have h1 := h.c1
  have hcap : len ≤ maxLen := by have := hS.strs.2.1; have := hS.strs.2.2.1; omega
  unfold maxLen at hcap hr
  have HL := Lib.hid hS.strs.1
  have HK := Lib.hid hok
  clear hS h hok
  go_enter Try.func15, Try.ntmps15
  go_wp2_with fail
  refine (full_any HA.out).mono ?_
  rintro e w' ⟨rfl, rfl⟩
  go_wp2_with fail
  go_loopw [5, 16] (fun r i wr => ∃ k : Nat, r = .int .i64 ((room - (flat (ss.take k)).length : Nat) : Nat) ∧ i = .int .i64 k ∧ k ≤ len ∧ wr = w' ∧ (flat (ss.take k)).length ≤ room) (fun _ i _ => len - (intOf i).toNat)
  case atStart => exact ⟨0, by simp [flat_nil], rfl, Nat.zero_le _, rfl, by simp [flat_nil]⟩
  case round =>
    obtain ⟨k, rfl, rfl, hk, rfl, hfr⟩ := hrel
    by_cases hlt : k < len
    · obtain ⟨x, hx⟩ : ∃ x, ss[k]? = some x := ⟨ss[k]'(by rw [HL.out]; exact hlt), List.getElem?_eq_getElem _⟩
      rcases HS.out.strs.2.2.2.2 with h0 | ⟨b, o, rfl, hbl, hcell⟩
      · omega
      · have hc := hcell k x hx
        have hfl := flat_le2 hx
        have hfk : (flat (ss.take (k + 1))).length = (flat (ss.take k)).length + x.size := by rw [flat_take hx, List.length_append, len_size]
        have hf1 := flat_le ss (k + 1)
        clear hcell hx
        generalize hn : (flat (ss.take k)).length = n at *
        generalize hm : (flat (ss.take (k + 1))).length = m at *
        by_cases hgt : room < n + x.size
        · have hd : decide (((room - n : Nat) : Int) < (x.size : Int)) = true := by simp; omega
          have hff : ok = false := by rw [HK.out]; simp; omega
          subst hff
          have hz := HA.out.fz 3
          have hc3 := HA.out.c3
          go_wp2_with fail
          go_ret
          exact ⟨rfl, HA.out.setFull true, did_set HA.out 3 (by omega) _⟩
        · have hd : decide (((room - n : Nat) : Int) < (x.size : Int)) = false := by simp; omega
          have hw : IntKind.i64.wrap (((room - n : Nat) : Int) - (x.size : Int)) = ((room - m : Nat) : Int) := by rw [IntWalk.i64_in _ (by omega)]; omega
          go_wp2_with fail
          go_roundw
          case rel =>
            refine ⟨k + 1, ?_, by go_num, by omega, trivial, by omega⟩
            rw [hm, hfk]
          case measure => simp [intOf]; omega
    · have hk2 : k = len := by omega
      subst hk2
      have e : ss.take k = ss := List.take_of_length_le (by rw [HL.out]; omega)
      rw [e] at hfr ⊢
      clear e
      have hff : ok = true := by rw [HK.out]; simpa using hfr
      subst hff
      have hz := HA.out.fz 1
      go_wp2_with fail
      have D1 := Lib.hid (did_set HA.out 1 (by omega) (.int .i64 ((room - (flat ss).length : Nat) : Nat)))
      have A1 := Lib.hid (HA.out.setRoom (room - (flat ss).length))
      have S1 := Lib.hid (HS.out.did D1.out)
      refine (add_any A1.out S1.out (by omega)).mono ?_
      rintro e w2 ⟨rfl, s2, d2⟩
      have S2 := Lib.hid s2
      have D2 := Lib.hid (D1.out.trans d2)
      clear s2 d2
      go_wp2_with fail
      go_ret
      exact ⟨rfl, S2.out, D2.out⟩
end Go.Proofs.Ytinamdmefbmnnaa
