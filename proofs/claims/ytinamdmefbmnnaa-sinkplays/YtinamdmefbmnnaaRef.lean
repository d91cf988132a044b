/-
  The reference's sink (Put, Margin) and Pick, walked.
-/
import Derived.Test.YtinamdmefbmnnaaAwk
import Derived.Maps.AppendAt
namespace Go.Proofs.Ytinamdmefbmnnaa
open Go.RowKit

/-- Of what was there only the block b may have turned. -/
structure Only (b : Nat) (w w' : World) : Prop where
  os : w'.os = w.os
  tape : w'.tape = w.tape
  output : w'.output = w.output
  size : w.heap.size ≤ w'.heap.size
  block : ∀ k, k ≠ b → k < w.heap.size → w'.heap[k]? = w.heap[k]?
theorem Only.refl (b : Nat) (w : World) : Only b w w := ⟨rfl, rfl, rfl, Nat.le_refl _, fun _ _ _ => rfl⟩
theorem Only.drew {b : Nat} {a w : World} (h : Only b a w) : Only b a w.drew := ⟨h.os, h.tape, h.output, h.size, h.block⟩
theorem Only.setCell {b : Nat} {a w : World} (h : Only b a w) {o : Nat} (u : Value) : Only b a (w.setCell ⟨b, o, none⟩ u) :=
  ⟨h.os, h.tape, h.output, by simpa [World.setCell] using h.size, fun k hk hs => (Below.heap_setCell _ _ _ _ hk).trans (h.block k hk hs)⟩
/-- The block p is the reference's sink. -/
def RefAt (w : World) (p : Nat) (most : Int) (deep : Nat) (full : Bool) (s : ByteArray) : Prop :=
  w.heap[p]? = some (.cells #[.int .i64 most, .int .i64 (deep : Nat), .bool full, .string s] 29)
theorem RefAt.c0 {w : World} {p : Nat} {most : Int} {deep : Nat} {full : Bool} {s : ByteArray} (h : RefAt w p most deep full s) : w.cell? ⟨p, 0, none⟩ = some (.int .i64 most) := by unfold RefAt at h; simp [World.cell?, h]
theorem RefAt.c1 {w : World} {p : Nat} {most : Int} {deep : Nat} {full : Bool} {s : ByteArray} (h : RefAt w p most deep full s) : w.cell? ⟨p, 1, none⟩ = some (.int .i64 (deep : Nat)) := by unfold RefAt at h; simp [World.cell?, h]
theorem RefAt.c2 {w : World} {p : Nat} {most : Int} {deep : Nat} {full : Bool} {s : ByteArray} (h : RefAt w p most deep full s) : w.cell? ⟨p, 2, none⟩ = some (.bool full) := by unfold RefAt at h; simp [World.cell?, h]
theorem RefAt.c3 {w : World} {p : Nat} {most : Int} {deep : Nat} {full : Bool} {s : ByteArray} (h : RefAt w p most deep full s) : w.cell? ⟨p, 3, none⟩ = some (.string s) := by unfold RefAt at h; simp [World.cell?, h]
theorem RefAt.fz {w : World} {p : Nat} {most : Int} {deep : Nat} {full : Bool} {s : ByteArray} (h : RefAt w p most deep full s) (o : Nat) : w.frozen? ⟨p, o, none⟩ = false := by unfold RefAt at h; simp [World.frozen?, h]
theorem RefAt.lt {w : World} {p : Nat} {most : Int} {deep : Nat} {full : Bool} {s : ByteArray} (h : RefAt w p most deep full s) : p < w.heap.size := heap_lt h
theorem RefAt.setFull {w : World} {p : Nat} {most : Int} {deep : Nat} {full : Bool} {s : ByteArray} (h : RefAt w p most deep full s) (r : Bool) : RefAt (w.setCell ⟨p, 2, none⟩ (.bool r)) p most deep r s := by
  unfold RefAt at h ⊢
  simpa using heap_set (o := 2) h (.bool r)
theorem RefAt.setS {w : World} {p : Nat} {most : Int} {deep : Nat} {full : Bool} {s : ByteArray} (h : RefAt w p most deep full s) (t : ByteArray) : RefAt (w.setCell ⟨p, 3, none⟩ (.string t)) p most deep full t := by
  unfold RefAt at h ⊢
  simpa using heap_set (o := 3) h (.string t)
theorem RefAt.setDeep {w : World} {p : Nat} {most : Int} {deep : Nat} {full : Bool} {s : ByteArray} (h : RefAt w p most deep full s) (d : Nat) : RefAt (w.setCell ⟨p, 1, none⟩ (.int .i64 (d : Nat))) p most d full s := by
  unfold RefAt at h ⊢
  simpa using heap_set (o := 1) h (.int .i64 (d : Nat))
theorem flat_app_str {t x : ByteArray} {ss : List ByteArray} {k : Nat} (h : t.data.toList = flat (ss.take k)) (hx : ss[k]? = some x) : (t ++ x).data.toList = flat (ss.take (k + 1)) := by
  rw [flat_take hx, ← h]
  simp [ByteArray.data_append]
set_option maxHeartbeats 400000 in
theorem pick_any (x n : Int) (w : World) (h0 : -9223372036854775808 ≤ x) (h1 : x ≤ 9223372036854775807) (hn : 1 ≤ n) (hn2 : n ≤ 1000000) :
    Calls Try.prog 21 #[.int .i64 x, .int .i64 n] w fun e w' => e = .returned (.int .i64 (x % n)) ∧ w = w' := by
  have hne : (n == 0) = false := by simp; omega
  by_cases hx : 0 ≤ x
  · have e : x.tmod n = x % n := Int.tmod_eq_emod_of_nonneg hx
    have b1 := Int.emod_nonneg x (show n ≠ 0 by omega)
    have b2 := Int.emod_lt_of_pos x (show 0 < n by omega)
    go_enter Try.func21, Try.ntmps21
    go_wp2_with fail
    go_ret
    exact ⟨rfl, rfl⟩
  · obtain ⟨y, rfl⟩ : ∃ y, x = -y := ⟨-x, by omega⟩
    have hy : 0 ≤ y := by omega
    have e : (-y).tmod n = -(y % n) := by rw [Int.neg_tmod, Int.tmod_eq_emod_of_nonneg hy]
    have b1 := Int.emod_nonneg y (show n ≠ 0 by omega)
    have b2 := Int.emod_lt_of_pos y (show 0 < n by omega)
    have hd := Int.emod_add_mul_ediv y n
    generalize hq : y % n = q at *
    have HQ := Lib.hid hq
    have HD := Lib.hid hd
    clear hq hd
    by_cases h0q : q = 0
    · subst h0q
      have er : (-y) % n = 0 := by
        have := HD.out
        rw [show -y = 0 + n * (-(y / n)) by rw [Int.mul_neg]; omega, Int.add_mul_emod_self_left]
        simp
      rw [er]
      have e' : (-y).tmod n = 0 := by rw [e]; rfl
      clear e er HQ HD
      go_enter Try.func21, Try.ntmps21
      go_wp2_with fail
      go_ret
      exact ⟨rfl, rfl⟩
    · have er : (-y) % n = n - q := by
        have := HD.out
        rw [show -y = (n - q) + n * (-(y / n) - 1) by rw [Int.mul_sub, Int.mul_neg]; omega, Int.add_mul_emod_self_left]
        exact Int.emod_eq_of_lt (by omega) (by omega)
      rw [er]
      have hneg : -q < 0 := by omega
      clear er HQ HD
      go_enter Try.func21, Try.ntmps21
      go_wp2_with fail
      go_ret
      exact ⟨by rw [show -q + n = n - q by omega]; rfl, rfl⟩

set_option maxHeartbeats 1600000 in
theorem refPut_any {w : World} {p : Nat} {most : Int} {deep : Nat} {full : Bool} {s : ByteArray} (h : RefAt w p most deep full s) {a : Option Addr} {len cap : Nat} {ss : List ByteArray} (hS : IsStrs w a len cap ss)
    (hl : s.size + (flat ss).length ≤ 1000000) (M : Nat) (hM : (M : Int) = max most 0) (ok : Bool) (hok : ok = (!full && decide (s.size + (flat ss).length ≤ M))) :
    Calls Try.prog 22 #[.pointer (some ⟨p, 0, none⟩), .slice a len cap] w fun e w' => e = .returned (.bool ok) ∧ (∃ t, RefAt w' p most deep (!ok) t ∧ t.data.toList = if ok then s.data.toList ++ flat ss else s.data.toList) ∧ Only p w w' := by
  have HS := Lib.hid hS
  have HA := Lib.hid h
  have h0 := h.c0
  have h2 := h.c2
  have h3 := h.c3
  have HK := Lib.hid hok
  have HM := Lib.hid hM
  have hcap : len ≤ maxLen := by have := hS.2.1; have := hS.2.2.1; omega
  unfold maxLen at hcap
  clear hS h hok hM
  go_enter Try.func22, Try.ntmps22
  go_wp2_with fail
  go_loopw [5, 6] (fun v i wr => ∃ (k : Nat) (t : ByteArray), v = .string t ∧ i = .int .i64 k ∧ k ≤ len ∧ t.data.toList = flat (ss.take k) ∧ wr = w) (fun _ i _ => len - (intOf i).toNat)
  case atStart => exact ⟨0, ⟨#[]⟩, rfl, rfl, Nat.zero_le _, by simp [flat_nil], rfl⟩
  case round =>
    obtain ⟨k, t, rfl, rfl, hk, ht, rfl⟩ := hrel
    have HT := Lib.hid ht
    clear ht
    have htl : t.size ≤ (flat ss).length := by rw [← len_size, HT.out]; exact flat_le _ _
    by_cases hlt : k < len
    · obtain ⟨x, hx⟩ : ∃ x, ss[k]? = some x := ⟨ss[k]'(by rw [HS.out.1]; exact hlt), List.getElem?_eq_getElem _⟩
      have hfl := flat_le2 hx
      have hfl2 : t.size + x.size ≤ 1000000 := by rw [← len_size t, HT.out]; omega
      rcases HS.out.2.2.2.2 with h00 | ⟨b, o, rfl, hbl, hcell⟩
      · omega
      · have hc := hcell k x hx
        have FT := Lib.hid (flat_app_str HT.out hx)
        clear hcell hx
        go_wp2_with fail
        go_roundw
        case rel => exact ⟨k + 1, _, rfl, by go_num, by omega, FT.out, trivial⟩
        case measure => simp [intOf]; omega
    · have hk2 : k = len := by omega
      subst hk2
      have e : t.data.toList = flat ss := by rw [HT.out, List.take_of_length_le (by rw [HS.out.1]; omega)]
      have htz : t.size = (flat ss).length := by rw [← len_size, e]
      have HE := Lib.hid e
      have HZ := Lib.hid htz
      clear e htz
      cases full with
      | true =>
        obtain rfl : ok = false := by simpa using HK.out
        go_wp2_with fail
        go_ret
        exact ⟨rfl, ⟨s, HA.out, rfl⟩, Only.refl _ _⟩
      | false =>
        have hw : IntKind.i64.wrap ((s.size : Int) + (t.size : Int)) = (s.size : Int) + (t.size : Int) := IntWalk.i64_in _ (by omega)
        cases ok with
        | true =>
          have dm : decide (max most 0 < (s.size : Int) + (t.size : Int)) = false := by
            have := HK.out
            have := HM.out
            have := HZ.out
            simp at *
            omega
          go_wp2_with fail
          go_region_held3 (fun w1 => w1.cell? ⟨p, 0, none⟩ = some (.int .i64 most) ∧ w1.cell? ⟨p, 3, none⟩ = some (.string s)) (first | exact ⟨h0, h3⟩ | assumption) (fail)
          have hz := HA.out.fz 3
          go_wp2_with fail
          go_ret
          exact ⟨rfl, ⟨_, RefAt.setS (w := wr.drew) HA.out _, by rw [← HE.out]; simp [ByteArray.data_append]⟩, (Only.refl p wr).drew.setCell _⟩
        | false =>
          have dm : decide (max most 0 < (s.size : Int) + (t.size : Int)) = true := by
            have := HK.out
            have := HM.out
            have := HZ.out
            simp at *
            omega
          go_wp2_with fail
          go_region_held3 (fun w1 => w1.cell? ⟨p, 0, none⟩ = some (.int .i64 most) ∧ w1.cell? ⟨p, 3, none⟩ = some (.string s)) (first | exact ⟨h0, h3⟩ | assumption) (fail)
          have hz := HA.out.fz 2
          go_wp2_with fail
          go_ret
          exact ⟨rfl, ⟨s, RefAt.setFull (w := wr.drew) HA.out true, rfl⟩, (Only.refl p wr).drew.setCell _⟩
/-- v is a list of texts of one's own. -/
def OwnS (w : World) (v : Value) (ss : List ByteArray) : Prop := w.ownsRow 0 9 1 v ss.length (ss.map Value.string)
theorem OwnS.nil (w : World) : OwnS w (.slice none 0 0) [] := World.ownsRow_nil _ _ _ _
theorem OwnS.lt {w : World} {v : Value} {ss : List ByteArray} (h : OwnS w v ss) (k : Nat) (hk : v.ownBlock = some k) : k < w.heap.size := (World.ownsRow.lt h k hk).2
theorem OwnS.kept {w w' : World} {v : Value} {ss : List ByteArray} (h : OwnS w v ss) (hb : ∀ k, v.ownBlock = some k → w'.heap[k]? = w.heap[k]?) : OwnS w' v ss := by
  refine ⟨h.1, ?_⟩
  rcases h.2 with h4 | ⟨g, cap, cur, hv, hb', hg, r⟩
  · exact .inl h4
  · exact .inr ⟨g, cap, cur, hv, hb', (hb g (by rw [hv]; rfl)).trans hg, r⟩
theorem OwnS.strs {w : World} {v : Value} {ss : List ByteArray} (h : OwnS w v ss) (hs : ∀ x ∈ ss, x.size ≤ maxLen) : ∃ a cap, v = .slice a ss.length cap ∧ IsStrs w a ss.length cap ss ∧ ∀ b o, a = some ⟨b, o, none⟩ → v.ownBlock = some b := by
  rcases h.2 with ⟨rfl, h4⟩ | ⟨g, cap, cur, rfl, hb', hg, h1, h2, h3, h5⟩
  · have : ss = [] := List.eq_nil_of_length_eq_zero h4
    subst this
    exact ⟨none, 0, rfl, ⟨rfl, Nat.le_refl _, by decide, hs, .inl rfl⟩, fun b o e => by cases e⟩
  · refine ⟨_, cap, rfl, ⟨rfl, h1, h2, hs, .inr ⟨g, 0, rfl, heap_lt hg, fun j x hx => ?_⟩⟩, fun b o e => by cases e; rfl⟩
    have hj := (List.getElem?_eq_some_iff.1 hx).1
    have e1 : cur.toList[j]? = (ss.map Value.string)[j]? := by rw [← h5, List.getElem?_take]; simp [hj]
    have e2 : cur[j]? = some (.string x) := by
      rw [List.getElem?_map, hx] at e1
      simpa using e1
    simp [World.cell?, hg, e2]
theorem OwnS.lit (w : World) (ss : List ByteArray) (hl : ss.length ≤ maxLen) : OwnS (w.alloc (.cells (ss.map Value.string).toArray 9)) (.slice (some ⟨w.heap.size, 0, none⟩) ss.length ss.length) ss :=
  ⟨by simp, .inr ⟨w.heap.size, ss.length, _, rfl, Nat.zero_le _, heap_new _ _, Nat.le_refl _, hl, by simp, List.take_of_length_le (by simp)⟩⟩
theorem ownS_info9 : (Try.prog.info? 9).map (fun i => (i.zero, i.size, i.bytes)) = some (some (.string ⟨#[]⟩), 1, 16) := by kernel_rfl
theorem run_appS {w : World} {v : Value} {ss : List ByteArray} (ty : TypeId) (h : OwnS w v ss) {a : Option Addr} {len cap : Nat} {ls : List ByteArray} (hl : IsStrs w a len cap ls) (hb : ss.length + len ≤ 100000) :
    ∃ v' w', (Builtin.append_ #[31, 31] ty #[v, .slice a len cap]).run Try.prog w = .ok v' w' ∧ OwnS w' v' (ss ++ ls) ∧ w.grownBy w' v.ownBlock ∧ (v'.ownBlock = v.ownBlock ∨ v'.ownBlock = some w.heap.size) := by
  obtain ⟨i, hi, hz0, hz1, hz2⟩ := info_parts ownS_info9
  have go : ∀ ad : Addr, a = some ad → (∀ (j : Nat) u, (ls.map Value.string)[j]? = some u → w.cell? (ad.add j) = some u) → ∃ v' w', (Builtin.append_ #[31, 31] ty #[v, .slice a len cap]).run Try.prog w = .ok v' w' ∧ OwnS w' v' (ss ++ ls) ∧ w.grownBy w' v.ownBlock ∧ (v'.ownBlock = v.ownBlock ∨ v'.ownBlock = some w.heap.size) := by
    intro ad e hn
    subst e
    obtain ⟨v', w', h1, h2, h3, _, h5⟩ := run_append_own_at (P := Try.prog) w 0 31 ty 9 i (.string ⟨#[]⟩) 1 16 Try.underlying31 hi hz0 hz1 hz2 rfl (by decide) v ss.length (ss.map Value.string) h ad len cap (ls.map Value.string) (by rw [List.length_map, hl.1]; omega) hn (by simp [Value.oneCell']) (by unfold maxLen; omega) (by omega) (Nat.zero_le _)
    refine ⟨v', w', h1, ?_, h3, h5⟩
    unfold OwnS
    rw [List.length_append, hl.1, List.map_append]
    exact h2
  cases a with
  | none =>
    have h0 : len = 0 := by
      rcases hl.2.2.2.2 with h0 | ⟨b, o, e, _⟩
      · exact h0
      · cases e
    subst h0
    have : ls = [] := List.eq_nil_of_length_eq_zero hl.1
    subst this
    refine ⟨v, w, ?_, by rw [List.append_nil]; exact h, ⟨rfl, rfl, rfl, Nat.le_refl _, fun _ _ _ => rfl⟩, .inl rfl⟩
    rcases h.2 with ⟨rfl, _⟩ | ⟨g, c, cur, rfl, _, _, hnc, _⟩
    · simp [Builtin.append_, run_underlying Try.underlying31, sizeOf, typeInfo, hi, Builtin.lenOf, Builtin.firstCells]
    · simp [Builtin.append_, run_underlying Try.underlying31, sizeOf, typeInfo, hi, Builtin.lenOf, Builtin.firstCells, hnc, storeCells]
  | some ad =>
    refine go ad rfl ?_
    intro j u hu
    rcases hl.2.2.2.2 with h0 | ⟨b, o, e, _, hc⟩
    · have : ls = [] := List.eq_nil_of_length_eq_zero (hl.1.trans h0)
      subst this
      simp at hu
    · cases e
      rw [Addr.add_mid]
      rw [List.getElem?_map] at hu
      cases hj : ls[j]? with
      | none => rw [hj] at hu; simp at hu
      | some z => rw [hj] at hu; simp at hu; rw [← hu]; exact hc j z hj
theorem wp_appS {ops : Array Oper} {rest : List Oper} {o : Oper} {a : Act} {Q : Exit → Act → World → Prop} (hgd : o.guard = none) (sl x : Operand)
    (ho : o.op = .call { callee := .builtin .append, args := #[sl, x], argTypes := #[31, 31] })
    {w : World} {v : Value} {ss : List ByteArray} (h : OwnS w v ss) {ad : Option Addr} {len cap : Nat} {ls : List ByteArray} (hl : IsStrs w ad len cap ls) (hs : a.eval sl = v) (hx : a.eval x = .slice ad len cap) (hb : ss.length + len ≤ 100000)
    (hk : ∀ v' w', OwnS w' v' (ss ++ ls) → w.grownBy w' v.ownBlock → (v'.ownBlock = v.ownBlock ∨ v'.ownBlock = some w.heap.size) → wpList Try.prog ops Q rest (a.put o.dst v') w') :
    wpList Try.prog ops Q (o :: rest) a w := by
  refine wpList_plain hgd fun K hK => ?_
  obtain ⟨v', w', hr, h2, h3, h4⟩ := run_appS o.type h hl hb
  unfold Oper.wp execOp
  simp only [ho, resolve, invoke, builtin, Sem.run_bind, Sem.run_pure, Result.andThen_ok, List.map_toArray, List.map_cons, List.map_nil, hs, hx, hr]
  exact hK _ _ (hk v' w' h2 h3 h4)
theorem step_appS {ops : Array Oper} {o : Oper} {a : Act} {K : Act → World → Prop} {Q : Exit → Act → World → Prop} {E : Prop} (hgd : o.guard = none) (sl x : Operand)
    (ho : o.op = .call { callee := .builtin .append, args := #[sl, x], argTypes := #[31, 31] })
    {w : World} {v : Value} {ss : List ByteArray} (h : OwnS w v ss) {ad : Option Addr} {len cap : Nat} {ls : List ByteArray} (hl : IsStrs w ad len cap ls) (hs : a.eval sl = v) (hx : a.eval x = .slice ad len cap) (hb : ss.length + len ≤ 100000)
    (hk : ∀ v' w', OwnS w' v' (ss ++ ls) → w.grownBy w' v.ownBlock → (v'.ownBlock = v.ownBlock ∨ v'.ownBlock = some w.heap.size) → K (a.put o.dst v') w') :
    if Region.wanted o (yielded ops a.tmps) = true then Oper.wp Try.prog o a w K Q else E := by
  have hw : Region.wanted o (yielded ops a.tmps) = true := by simp [Region.wanted, hgd]
  rw [if_pos hw]
  obtain ⟨v', w', hr, h2, h3, h4⟩ := run_appS o.type h hl hb
  unfold Oper.wp execOp
  simp only [ho, resolve, invoke, builtin, Sem.run_bind, Sem.run_pure, Result.andThen_ok, List.map_toArray, List.map_cons, List.map_nil, hs, hx, hr]
  exact hk v' w' h2 h3 h4
/-- A list of one's own that was made since w0. -/
structure Grow (w0 wr : World) (v : Value) (ss : List ByteArray) : Prop where
  own : OwnS wr v ss
  loc : ∀ k, v.ownBlock = some k → w0.heap.size ≤ k
  bel : Below w0.heap.size w0 wr
theorem Grow.app {w0 wr w' : World} {v v' : Value} {ss tt : List ByteArray} (h : Grow w0 wr v ss) (ho : OwnS w' v' tt) (hg : wr.grownBy w' v.ownBlock) (hl : v'.ownBlock = v.ownBlock ∨ v'.ownBlock = some wr.heap.size) : Grow w0 w' v' tt := by
  have hs := h.bel.size
  refine ⟨ho, fun k hk => ?_, hg.os.trans h.bel.os, hg.tape.trans h.bel.tape, hg.output.trans h.bel.output, Nat.le_trans hs hg.size, fun i hi => (hg.block i (by omega) (fun e => ?_)).trans (h.bel.block i hi)⟩
  · rcases hl with hl | hl
    · exact h.loc k (by rw [← hl]; exact hk)
    · rw [hl] at hk; cases hk; exact hs
  · have := h.loc i e.symm
    omega
theorem Grow.alloc {w0 wr : World} {v : Value} {ss : List ByteArray} (h : Grow w0 wr v ss) (o : Obj) : Grow w0 (wr.alloc o) v ss :=
  ⟨h.own.kept fun k hk => heap_old _ _ _ (h.own.lt k hk), h.loc, h.bel.alloc h.bel.size _⟩
theorem lit_strs (w : World) (ss : List ByteArray) (hl : ss.length ≤ maxLen) (hs : ∀ x ∈ ss, x.size ≤ maxLen) : IsStrs (w.alloc (.cells (ss.map Value.string).toArray 9)) (some ⟨w.heap.size, 0, none⟩) ss.length ss.length ss := isStrs_row (heap_new _ _) hl hs
theorem rep_snoc (k : Nat) (x : ByteArray) : List.replicate k x ++ [x] = List.replicate (k + 1) x := by
  rw [← List.replicate_append_replicate]; rfl
set_option maxHeartbeats 800000 in
theorem margin_any {w : World} {p : Nat} {most : Int} {deep : Nat} {full : Bool} {s : ByteArray} (h : RefAt w p most deep full s) {a : Option Addr} {len cap : Nat} {ss : List ByteArray} (hS : IsStrs w a len cap ss) (hd : deep ≤ 1000) (hl : len ≤ 1000) :
    Calls Try.prog 23 #[.pointer (some ⟨p, 0, none⟩), .slice a len cap] w fun e w' => ∃ v, e = .returned v ∧ Grow w w' v (List.replicate deep ⟨#[32, 32]⟩ ++ ss) := by
  have HS := Lib.hid hS
  have HA := Lib.hid h
  clear hS h
  go_enter Try.func23, Try.ntmps23
  go_wp2_with fail
  go_loopw [5, 6] (fun v i wr => ∃ k : Nat, i = .int .i64 k ∧ k ≤ deep ∧ Grow w wr v (List.replicate k ⟨#[32, 32]⟩)) (fun _ i _ => deep - (intOf i).toNat)
  case atStart => exact ⟨0, rfl, Nat.zero_le _, OwnS.nil _, fun k hk => by simp [Value.ownBlock] at hk, Below.refl _ _⟩
  case round =>
    obtain ⟨k, rfl, hk, hG⟩ := hrel
    have G := Lib.hid hG
    clear hG
    have h1 : wr.cell? ⟨p, 1, none⟩ = some (.int .i64 (deep : Nat)) := (G.out.bel.cell (p := ⟨p, 1, none⟩) HA.out.lt).trans HA.out.c1
    by_cases hlt : k < deep
    · go_wp2_with (at_builtin; refine wp_appS rfl (.tmp 15) (.tmp 16) rfl (G.out.alloc _).own (lit_strs wr [⟨#[32, 32]⟩] (by decide) (by simp; decide)) rfl rfl (by simp; omega) ?_)
      intro v' w' o' g' l'
      have G2 := Lib.hid ((G.out.alloc (.cells (([⟨#[32, 32]⟩] : List ByteArray).map Value.string).toArray 9)).app o' g' (by simpa using l'))
      rw [rep_snoc] at G2
      clear o' g' l'
      go_wp2_with fail
      go_roundw
      case rel => exact ⟨k + 1, by go_num, by omega, G2.out⟩
      case measure => simp [intOf]; omega
    · have hke : k = deep := by omega
      subst hke
      go_wp2_with (at_builtin; refine wp_appS rfl (.tmp 18) (.tmp 19) rfl G.out.own (HS.out.below G.out.bel) rfl rfl (by simp; omega) ?_)
      intro v' w' o' g' l'
      have G2 := Lib.hid (G.out.app o' g' l')
      clear o' g' l'
      go_wp2_with fail
      go_ret
      exact ⟨_, rfl, G2.out⟩
end Go.Proofs.Ytinamdmefbmnnaa
