/-
  turner.name: walked, at both functions in the field.
-/
import Derived.Test.YtciijpahjjoppaaGreatNmj
namespace Go.Proofs.YtciijpahjjoppaaGreat
open Go.RowKit Go.Shelf Go.Deep
attribute [local go_sem] Oper.semAt_some

set_option maxRecDepth 100000 in
set_option maxHeartbeats 4000000 in
theorem name_50 {σ : Type} {c1 c2 : Value} (C : Clo σ 50 c1 c2) (n : Nat) (st : σ) (s : ByteArray) (w : World) (hI : C.I (n + (parts s).length) st w) (hs : s.size ≤ lim) :
    Calls Tryz.prog 86 #[.agg #[.func (.func 50) #[] #[c1, c2]], .string s] w (NmPost C n st s w) := by
  obtain ⟨i0, hi, hz0, hz1, hz2⟩ := info_parts info9
  have hlow : C.low ≤ w.heap.size := Nat.le_trans (C.hiI hI).1 (C.hiI hI).2
  have hhi : C.hi ≤ w.heap.size := (C.hiI hI).2
  have hL : (parts s).length ≤ 8388609 := by have := parts_len s; unfold lim at hs; omega
  have hM : lim ≤ maxLen := by decide
  obtain ⟨W0, hW0⟩ : ∃ W0, W0 = ((w.alloc (.cells #[.func (.func 50) #[] #[c1, c2]] 97)).alloc (.cells #[.slice none 0 0] 29)).alloc (.cells #[.string s] 9) := ⟨_, rfl⟩
  have z1 : (w.alloc (.cells #[.func (.func 50) #[] #[c1, c2]] 97)).heap.size = w.heap.size + 1 := by simp
  have z2 : ((w.alloc (.cells #[.func (.func 50) #[] #[c1, c2]] 97)).alloc (.cells #[.slice none 0 0] 29)).heap.size = w.heap.size + 2 := by simp
  have b0 : Below w.heap.size w W0 := by rw [hW0]; exact (((Below.refl _ w).alloc (Nat.le_refl _) _).alloc (by simp) _).alloc (by simp; omega) _
  have q0 : W0.heap.size = w.heap.size + 3 := by rw [hW0]; simp
  have bT : Boxed W0 w.heap.size 97 (.func (.func 50) #[] #[c1, c2]) := by rw [hW0]; exact ((Boxed.new w 97 _).alloc _).alloc _
  have bL : Boxed W0 (w.heap.size + 1) 29 (.slice none 0 0) := by
    have := (Boxed.new (w.alloc (.cells #[.func (.func 50) #[] #[c1, c2]] 97)) 29 (.slice none 0 0)).alloc (.cells #[.string s] 9)
    rw [z1] at this
    rw [hW0]
    exact this
  have bS : Boxed W0 (w.heap.size + 2) 9 (.string s) := by
    have := Boxed.new ((w.alloc (.cells #[.func (.func 50) #[] #[c1, c2]] 97)).alloc (.cells #[.slice none 0 0] 29)) 9 (.string s)
    rw [z2] at this
    rw [hW0]
    exact this
  obtain ⟨k0, i00⟩ := C.below (Kept.refl C.O C.hi w) hI hlow b0
  have no : ∀ b, w.heap.size ≤ b → ¬ C.O W0 b := fun b hb e => by
    rcases k0.own b e with e | _
    · have := (C.ltO hI e).2; omega
    · obtain ⟨_, h2⟩ := C.keep hI b0.size (fun b hb => b0.block b (by omega)) (fun b hb => b0.block b (C.ltO hI hb).2)
      have := (C.ltO hI (h2 b e)).2
      omega
  have J0 : NmJ C (n + (parts s).length) w [] st W0 := ⟨i00, bT, ⟨_, bL, World.ownsRow_nil _ _ _ _, fun b hb => by simp [Value.ownBlock] at hb⟩, no _ (Nat.le_refl _), no _ (by omega), k0, hlow, hhi, by omega, by simp⟩
  have HJ0 := Lib.hid J0
  clear J0 no k0 i00 bT bL z1 z2 hI
  refine (callsIn_wide (n := 3)).1 ?_
  refine callsIn_of_wp_marks Tryz.func86 rfl trivial ?_ rfl
  simp only [Tryz.ntmps86, List.size_toArray, List.length_cons, List.length_nil, Nat.reduceAdd, Nat.reduceSub, Array.replicate_succ, Array.replicate_zero, List.push_toArray, List.append_toArray, List.nil_append, List.cons_append]
  gi_wp2_with (refine ⟨trivial, ?_⟩; gi_at_call 121; refine (callsIn_wide.2 (partsF_any s _)).mono ?_; rintro e w' ⟨rfl, rfl⟩)
  rw [← hW0]
  refine wpIn_rangeFunc_ownG rfl (by omega) (gf := 140) (lb := #[.pointer (some ⟨w.heap.size + 2, 0, none⟩)]) rfl trivial (enters_of Tryz.func140 (by kernel_rfl) rfl)
    (parts_stops lim hM _ (by omega) (w.heap.size + 2) s hs (fun _ _ => True) W0 bS.cell) (fun _ _ => trivial) (fun _ _ _ _ _ _ _ _ => trivial) (Below.refl _ _) (fun _ => rfl)
    (NmI C n st s w)
    (fun _ _ _ => False)
    (fun (pre : List (Tx lim)) A B row hsx hg hr => ⟨hsx.1, hsx.2.same ⟨row, hg, fun r e => ⟨by have := (hr r e).1; omega, (hr r e).2⟩⟩⟩)
    (fun _ _ _ _ _ hs _ _ => hs)
    ⟨Nat.zero_le _, HJ0.out⟩
    (fun x => { tmps := #[.agg #[.func (.func 50) #[] #[c1, c2]], .string s, .pointer (some ⟨w.heap.size, 0, none⟩), undef, .string ⟨#[]⟩, .pointer (some ⟨w.heap.size + 1, 0, none⟩), .string x.1, .string s, .func (.func 140) #[] #[.pointer (some ⟨w.heap.size + 2, 0, none⟩)], .string x.1, undef, undef, undef, undef, undef, undef, undef, undef, undef, undef, undef, undef], defers := [] }) ?assign ?body ?done ?stop
  case assign =>
    intro l x W K hK
    gi_wp2
    exact hK
  case body =>
    rintro l pre x W ⟨hpl, hJ⟩ hlt
    have hkf : ∀ A B, Kept C.O C.hi A B → KeepsFrom W0.heap.size A B := fun A B h => ⟨h.size, fun b o h1 h2 h3 => h.others b o (by omega) h2 h3⟩
    have HKF := Lib.hid hkf
    have bt := hJ.bt.cell
    have hlen : (C.pts st (pre.map fun x => x.1)).1.length = pre.length := by rw [C.pts_len, List.length_map]
    have hsn := C.pts_snoc st (pre.map fun x => x.1) x.1
    have hbud : n + ((parts s).length - pre.length) = n + ((parts s).length - (pre.length + 1)) + 1 := by omega
    rw [hbud] at hJ
    have HSN := Lib.hid hsn
    have HLEN := Lib.hid hlen
    have hxl := x.2
    clear hkf hsn hlen hbud
    generalize hys : (C.pts st (pre.map fun x => x.1)).1 = ys at *
    generalize hst : (C.pts st (pre.map fun x => x.1)).2 = s1 at *
    have HYS := Lib.hid hys
    have HST := Lib.hid hst
    clear hys hst
    generalize hB' : n + ((parts s).length - (pre.length + 1)) = bud at *
    have HBUD := Lib.hid hB'
    clear hB'
    have hle := Lib.hid (C.pts_le hJ.i hxl)
    by_cases hx0 : x.1.size = 0
    · have hpt : C.pt s1 x.1 = (x.1, s1) := by unfold Clo.pt; rw [if_pos hx0]
      have hxe : x.1.toList = [] := by rw [ba_empty _ hx0, ByteArray.toList_eq]
      have hxf : (!x.1.toList.isEmpty) = false := by rw [hxe]; rfl
      have HPT := Lib.hid hpt
      have HJ := Lib.hid hJ.down
      obtain ⟨v, hv, hrow, hno⟩ := hJ.row
      have hc := hv.cell
      have hsz := hJ.sz
      have HNO := Lib.hid (show ∀ b, v.ownBlock = some b → w.heap.size + 1 ≤ b ∧ ¬ C.O W b from fun b hb => ⟨(rowBlock hrow hb).1, hno b hb⟩)
      clear hpt hJ hno
      gi_wp2_with (gi_at_builtin; refine wpListIn_append_own_at _ rfl _ _ 29 rfl (w.heap.size + 1) 9 i0 (.string ⟨#[]⟩) 1 16 Tryz.underlying29 hi hz0 hz1 hz2 rfl (by decide) _ _ _ rfl (hrow.alloc _) ⟨W.heap.size, 0, none⟩ 1 1 [.string x.1] rfl rfl (cell_one_new _ _ _) (by simp [Value.oneCell']) (by rw [HLEN.out]; unfold maxLen; omega) (by rw [HLEN.out]; omega) (by simp; omega) ?_; intro v' w1 hown' hgrow _ hat; obtain ⟨g', cap', rfl⟩ := ownsRow_succ hown'; obtain ⟨hv1, hv2, hr2, hk2, hb2⟩ := hv.appended (by decide) hrow (by omega) (by omega) hown' hgrow; have hc1 := hv1.cell; have hf1 := hv1.frozen)
      refine ⟨hk2.from _, trivial, by simp; omega, ?_⟩
      rw [List.map_append, List.map_singleton, HSN.out, HPT.out, List.length_append, List.length_singleton, HBUD.out]
      exact HJ.out.appended HNO.out (by have := hle.out; rw [HPT.out] at this; exact this) hgrow hat hv2 (by simpa using hr2)
    · have hpt : C.pt s1 x.1 = (C.out s1 x.1, C.step s1 x.1) := by unfold Clo.pt; rw [if_neg hx0]
      have hxe : ¬ x.1.toList = [] := toList_ne _ (by omega)
      have hxf : (!x.1.toList.isEmpty) = true := by simpa using hxe
      have HPT := Lib.hid hpt
      have HJ := Lib.hid hJ
      have hcall := Lib.hid (C.call bud s1 W x.1 hJ.i hx0 hxl)
      clear hpt hJ
      gi_wp2_with (first
        | (refine ⟨trivial, ?_⟩; gi_at_call 50; refine (CallsIn.inRound l (callsIn_wide.2 hcall.out)).mono ?_; rintro e W2 ⟨rfl, hi2, hk2⟩; have HJ2 := Lib.hid (HJ.out.called hk2 hi2); have HKF2 := Lib.hid (HKF.out _ _ hk2); clear hi2 hk2; obtain ⟨v, hv, hrow, hno⟩ := HJ2.out.row; have hc := hv.cell; have hsz := HJ2.out.sz; have HNO := Lib.hid (show ∀ b, v.ownBlock = some b → w.heap.size + 1 ≤ b ∧ ¬ C.O W2 b from fun b hb => ⟨(rowBlock hrow hb).1, hno b hb⟩); clear hno bt)
        | (gi_at_builtin; refine wpListIn_append_own_at _ rfl _ _ 29 rfl (w.heap.size + 1) 9 i0 (.string ⟨#[]⟩) 1 16 Tryz.underlying29 hi hz0 hz1 hz2 rfl (by decide) _ _ _ rfl (hrow.alloc _) ⟨W2.heap.size, 0, none⟩ 1 1 [.string (C.out s1 x.1)] rfl rfl (cell_one_new _ _ _) (by simp [Value.oneCell']) (by rw [HLEN.out]; unfold maxLen; omega) (by rw [HLEN.out]; omega) (by simp; omega) ?_; intro v' w1 hown' hgrow _ hat; obtain ⟨g', cap', rfl⟩ := ownsRow_succ hown'; obtain ⟨hv1, hv2, hr2, hk2, hb2⟩ := hv.appended (by decide) hrow (by omega) (by omega) hown' hgrow; have hc1 := hv1.cell; have hf1 := hv1.frozen))
      refine ⟨HKF2.out.trans (hk2.from _), trivial, by simp; omega, ?_⟩
      rw [List.map_append, List.map_singleton, HSN.out, HPT.out, List.length_append, List.length_singleton, HBUD.out]
      exact HJ2.out.appended HNO.out (by have := hle.out; rw [HPT.out] at this; exact this) hgrow hat hv2 (by simpa using hr2)
  case done =>
    rintro D xs W hD hxs ⟨hpl, hJ⟩ hK
    rw [hxs] at hJ
    have hxl : xs.length = (parts s).length := by rw [← hxs, List.length_map]
    rw [hxl, Nat.sub_self, Nat.add_zero] at hJ
    obtain ⟨v, hv, hrow, hno⟩ := hJ.row
    have hc := hv.cell
    have hlen : (C.pts st (parts s)).1.length = (parts s).length := C.pts_len _ _
    have hpos : 0 < (C.pts st (parts s)).1.length := by rw [hlen]; exact List.length_pos_iff.2 (parts_ne s)
    have hall := hJ.small
    have HJ := Lib.hid hJ
    have HNM := Lib.hid (show C.nm st s = (joinD (C.pts st (parts s)).1, (C.pts st (parts s)).2) from rfl)
    generalize hys : (C.pts st (parts s)).1 = ys at *
    generalize hst : (C.pts st (parts s)).2 = s1 at *
    obtain ⟨gb, cap, cur, rfl, hgb, hgc, hcap, hcm, hcs, hct⟩ : ∃ gb cap cur, v = .slice (some ⟨gb, 0, none⟩) ys.length cap ∧ w.heap.size + 1 ≤ gb ∧ W.heap[gb]? = some (.cells cur 9 (0, 0)) ∧ ys.length ≤ cap ∧ cap ≤ maxLen ∧ cur.size = cap * 1 ∧ cur.toList.take (ys.length * 1) = ys.map Value.string := by
      rcases hrow.2 with ⟨_, h4⟩ | ⟨q, cap, cur, h1, h2, h3, h4, h5, h6, h7⟩
      · omega
      · exact ⟨q, cap, cur, h1, h2, h3, h4, h5, h6, h7⟩
    have hcells : ∀ (j : Nat) (x : ByteArray), ys[j]? = some x → W.cell? ⟨gb, 0 + j, none⟩ = some (.string x) := by
      intro j x hx
      have hj := (List.getElem?_eq_some_iff.1 hx).1
      have e1 : cur.toList[j]? = (ys.map Value.string)[j]? := by rw [← hct, List.getElem?_take]; simp [hj]
      have e2 : cur[j]? = some (.string x) := by
        rw [List.getElem?_map, hx] at e1
        simpa using e1
      rw [Nat.zero_add]
      simp [World.cell?, hgc, e2]
    have hjl : (Lib.join (ys.map (·.data.toList)) [36]).length ≤ 140737488355328 := by
      have h1 := join_len (ys.map (·.data.toList)) lim (fun z hz => by
        obtain ⟨y, hy, rfl⟩ := List.mem_map.1 hz
        exact hall y hy)
      rw [List.length_map] at h1
      have h2 : ys.length * (lim + 1) ≤ 8388609 * (lim + 1) := Nat.mul_le_mul_right _ (by omega)
      have h3 : 8388609 * (lim + 1) ≤ 140737488355328 := by decide
      omega
    have hjoin := Lib.hid (Tryz.strings_Join gb 0 cap ys ⟨#[36]⟩ W hcells (heap_lt hgc) (by omega) hcap hjl)
    clear hcells hjl hall hct hgc hrow hys hst hxs hlen
    gi_wp2_with (refine ⟨trivial, ?_⟩; gi_at_call 122; refine (callsIn_wide.2 hjoin.out).mono ?_; rintro e W3 ⟨rfl, b3⟩)
    obtain ⟨k3, i3⟩ := C.below HJ.out.kept HJ.out.i HJ.out.low b3
    have hK3 : W3.heap[D]? = some (.deferred (some [])) := (b3.block D (heap_lt hK)).trans hK
    have HK3 := Lib.hid k3
    have HI3 := Lib.hid i3
    clear k3 i3 b3
    gi_wp2
    refine ⟨by simp, .inl ⟨_, _, rfl, run_takeDeferred hK3, ?_⟩⟩
    refine ⟨_, results_tmp rfl _ _ _, ?_⟩
    have gD := grownBy_putObj' W3 D (.deferred none)
    have nD : ∀ b, C.O W3 b → b ≠ D := fun b hb e => by
      subst e
      obtain ⟨o, ho, hc⟩ := C.cellsO HI3.out hb (by omega)
      rw [hK3] at ho
      cases ho
      cases hc
    obtain ⟨k4, i4⟩ := C.next HK3.out HI3.out hlow gD.os gD.tape gD.output gD.size (fun b hb => gD.block b (C.ltO HI3.out hb).2 (fun e => nD b hb (by simpa using e))) (fun b hb => gD.block b (Nat.lt_of_lt_of_le hb HK3.out.size) (fun e => absurd (show b = D by simpa using e) (by omega)))
    refine ⟨by rw [HNM.out]; rfl, by rw [HNM.out]; exact i4, k4⟩
  case stop =>
    rintro D c pre W _ _ h _
    exact h.elim

set_option maxRecDepth 100000 in
set_option maxHeartbeats 4000000 in
theorem name_59 {σ : Type} {c1 c2 : Value} (C : Clo σ 59 c1 c2) (n : Nat) (st : σ) (s : ByteArray) (w : World) (hI : C.I (n + (parts s).length) st w) (hs : s.size ≤ lim) :
    Calls Tryz.prog 86 #[.agg #[.func (.func 59) #[] #[c1, c2]], .string s] w (NmPost C n st s w) := by
  obtain ⟨i0, hi, hz0, hz1, hz2⟩ := info_parts info9
  have hlow : C.low ≤ w.heap.size := Nat.le_trans (C.hiI hI).1 (C.hiI hI).2
  have hhi : C.hi ≤ w.heap.size := (C.hiI hI).2
  have hL : (parts s).length ≤ 8388609 := by have := parts_len s; unfold lim at hs; omega
  have hM : lim ≤ maxLen := by decide
  obtain ⟨W0, hW0⟩ : ∃ W0, W0 = ((w.alloc (.cells #[.func (.func 59) #[] #[c1, c2]] 97)).alloc (.cells #[.slice none 0 0] 29)).alloc (.cells #[.string s] 9) := ⟨_, rfl⟩
  have z1 : (w.alloc (.cells #[.func (.func 59) #[] #[c1, c2]] 97)).heap.size = w.heap.size + 1 := by simp
  have z2 : ((w.alloc (.cells #[.func (.func 59) #[] #[c1, c2]] 97)).alloc (.cells #[.slice none 0 0] 29)).heap.size = w.heap.size + 2 := by simp
  have b0 : Below w.heap.size w W0 := by rw [hW0]; exact (((Below.refl _ w).alloc (Nat.le_refl _) _).alloc (by simp) _).alloc (by simp; omega) _
  have q0 : W0.heap.size = w.heap.size + 3 := by rw [hW0]; simp
  have bT : Boxed W0 w.heap.size 97 (.func (.func 59) #[] #[c1, c2]) := by rw [hW0]; exact ((Boxed.new w 97 _).alloc _).alloc _
  have bL : Boxed W0 (w.heap.size + 1) 29 (.slice none 0 0) := by
    have := (Boxed.new (w.alloc (.cells #[.func (.func 59) #[] #[c1, c2]] 97)) 29 (.slice none 0 0)).alloc (.cells #[.string s] 9)
    rw [z1] at this
    rw [hW0]
    exact this
  have bS : Boxed W0 (w.heap.size + 2) 9 (.string s) := by
    have := Boxed.new ((w.alloc (.cells #[.func (.func 59) #[] #[c1, c2]] 97)).alloc (.cells #[.slice none 0 0] 29)) 9 (.string s)
    rw [z2] at this
    rw [hW0]
    exact this
  obtain ⟨k0, i00⟩ := C.below (Kept.refl C.O C.hi w) hI hlow b0
  have no : ∀ b, w.heap.size ≤ b → ¬ C.O W0 b := fun b hb e => by
    rcases k0.own b e with e | _
    · have := (C.ltO hI e).2; omega
    · obtain ⟨_, h2⟩ := C.keep hI b0.size (fun b hb => b0.block b (by omega)) (fun b hb => b0.block b (C.ltO hI hb).2)
      have := (C.ltO hI (h2 b e)).2
      omega
  have J0 : NmJ C (n + (parts s).length) w [] st W0 := ⟨i00, bT, ⟨_, bL, World.ownsRow_nil _ _ _ _, fun b hb => by simp [Value.ownBlock] at hb⟩, no _ (Nat.le_refl _), no _ (by omega), k0, hlow, hhi, by omega, by simp⟩
  have HJ0 := Lib.hid J0
  clear J0 no k0 i00 bT bL z1 z2 hI
  refine (callsIn_wide (n := 3)).1 ?_
  refine callsIn_of_wp_marks Tryz.func86 rfl trivial ?_ rfl
  simp only [Tryz.ntmps86, List.size_toArray, List.length_cons, List.length_nil, Nat.reduceAdd, Nat.reduceSub, Array.replicate_succ, Array.replicate_zero, List.push_toArray, List.append_toArray, List.nil_append, List.cons_append]
  gi_wp2_with (refine ⟨trivial, ?_⟩; gi_at_call 121; refine (callsIn_wide.2 (partsF_any s _)).mono ?_; rintro e w' ⟨rfl, rfl⟩)
  rw [← hW0]
  refine wpIn_rangeFunc_ownG rfl (by omega) (gf := 140) (lb := #[.pointer (some ⟨w.heap.size + 2, 0, none⟩)]) rfl trivial (enters_of Tryz.func140 (by kernel_rfl) rfl)
    (parts_stops lim hM _ (by omega) (w.heap.size + 2) s hs (fun _ _ => True) W0 bS.cell) (fun _ _ => trivial) (fun _ _ _ _ _ _ _ _ => trivial) (Below.refl _ _) (fun _ => rfl)
    (NmI C n st s w)
    (fun _ _ _ => False)
    (fun (pre : List (Tx lim)) A B row hsx hg hr => ⟨hsx.1, hsx.2.same ⟨row, hg, fun r e => ⟨by have := (hr r e).1; omega, (hr r e).2⟩⟩⟩)
    (fun _ _ _ _ _ hs _ _ => hs)
    ⟨Nat.zero_le _, HJ0.out⟩
    (fun x => { tmps := #[.agg #[.func (.func 59) #[] #[c1, c2]], .string s, .pointer (some ⟨w.heap.size, 0, none⟩), undef, .string ⟨#[]⟩, .pointer (some ⟨w.heap.size + 1, 0, none⟩), .string x.1, .string s, .func (.func 140) #[] #[.pointer (some ⟨w.heap.size + 2, 0, none⟩)], .string x.1, undef, undef, undef, undef, undef, undef, undef, undef, undef, undef, undef, undef], defers := [] }) ?assign ?body ?done ?stop
  case assign =>
    intro l x W K hK
    gi_wp2
    exact hK
  case body =>
    rintro l pre x W ⟨hpl, hJ⟩ hlt
    have hkf : ∀ A B, Kept C.O C.hi A B → KeepsFrom W0.heap.size A B := fun A B h => ⟨h.size, fun b o h1 h2 h3 => h.others b o (by omega) h2 h3⟩
    have HKF := Lib.hid hkf
    have bt := hJ.bt.cell
    have hlen : (C.pts st (pre.map fun x => x.1)).1.length = pre.length := by rw [C.pts_len, List.length_map]
    have hsn := C.pts_snoc st (pre.map fun x => x.1) x.1
    have hbud : n + ((parts s).length - pre.length) = n + ((parts s).length - (pre.length + 1)) + 1 := by omega
    rw [hbud] at hJ
    have HSN := Lib.hid hsn
    have HLEN := Lib.hid hlen
    have hxl := x.2
    clear hkf hsn hlen hbud
    generalize hys : (C.pts st (pre.map fun x => x.1)).1 = ys at *
    generalize hst : (C.pts st (pre.map fun x => x.1)).2 = s1 at *
    have HYS := Lib.hid hys
    have HST := Lib.hid hst
    clear hys hst
    generalize hB' : n + ((parts s).length - (pre.length + 1)) = bud at *
    have HBUD := Lib.hid hB'
    clear hB'
    have hle := Lib.hid (C.pts_le hJ.i hxl)
    by_cases hx0 : x.1.size = 0
    · have hpt : C.pt s1 x.1 = (x.1, s1) := by unfold Clo.pt; rw [if_pos hx0]
      have hxe : x.1.toList = [] := by rw [ba_empty _ hx0, ByteArray.toList_eq]
      have hxf : (!x.1.toList.isEmpty) = false := by rw [hxe]; rfl
      have HPT := Lib.hid hpt
      have HJ := Lib.hid hJ.down
      obtain ⟨v, hv, hrow, hno⟩ := hJ.row
      have hc := hv.cell
      have hsz := hJ.sz
      have HNO := Lib.hid (show ∀ b, v.ownBlock = some b → w.heap.size + 1 ≤ b ∧ ¬ C.O W b from fun b hb => ⟨(rowBlock hrow hb).1, hno b hb⟩)
      clear hpt hJ hno
      gi_wp2_with (gi_at_builtin; refine wpListIn_append_own_at _ rfl _ _ 29 rfl (w.heap.size + 1) 9 i0 (.string ⟨#[]⟩) 1 16 Tryz.underlying29 hi hz0 hz1 hz2 rfl (by decide) _ _ _ rfl (hrow.alloc _) ⟨W.heap.size, 0, none⟩ 1 1 [.string x.1] rfl rfl (cell_one_new _ _ _) (by simp [Value.oneCell']) (by rw [HLEN.out]; unfold maxLen; omega) (by rw [HLEN.out]; omega) (by simp; omega) ?_; intro v' w1 hown' hgrow _ hat; obtain ⟨g', cap', rfl⟩ := ownsRow_succ hown'; obtain ⟨hv1, hv2, hr2, hk2, hb2⟩ := hv.appended (by decide) hrow (by omega) (by omega) hown' hgrow; have hc1 := hv1.cell; have hf1 := hv1.frozen)
      refine ⟨hk2.from _, trivial, by simp; omega, ?_⟩
      rw [List.map_append, List.map_singleton, HSN.out, HPT.out, List.length_append, List.length_singleton, HBUD.out]
      exact HJ.out.appended HNO.out (by have := hle.out; rw [HPT.out] at this; exact this) hgrow hat hv2 (by simpa using hr2)
    · have hpt : C.pt s1 x.1 = (C.out s1 x.1, C.step s1 x.1) := by unfold Clo.pt; rw [if_neg hx0]
      have hxe : ¬ x.1.toList = [] := toList_ne _ (by omega)
      have hxf : (!x.1.toList.isEmpty) = true := by simpa using hxe
      have HPT := Lib.hid hpt
      have HJ := Lib.hid hJ
      have hcall := Lib.hid (C.call bud s1 W x.1 hJ.i hx0 hxl)
      clear hpt hJ
      gi_wp2_with (first
        | (refine ⟨trivial, ?_⟩; gi_at_call 59; refine (CallsIn.inRound l (callsIn_wide.2 hcall.out)).mono ?_; rintro e W2 ⟨rfl, hi2, hk2⟩; have HJ2 := Lib.hid (HJ.out.called hk2 hi2); have HKF2 := Lib.hid (HKF.out _ _ hk2); clear hi2 hk2; obtain ⟨v, hv, hrow, hno⟩ := HJ2.out.row; have hc := hv.cell; have hsz := HJ2.out.sz; have HNO := Lib.hid (show ∀ b, v.ownBlock = some b → w.heap.size + 1 ≤ b ∧ ¬ C.O W2 b from fun b hb => ⟨(rowBlock hrow hb).1, hno b hb⟩); clear hno bt)
        | (gi_at_builtin; refine wpListIn_append_own_at _ rfl _ _ 29 rfl (w.heap.size + 1) 9 i0 (.string ⟨#[]⟩) 1 16 Tryz.underlying29 hi hz0 hz1 hz2 rfl (by decide) _ _ _ rfl (hrow.alloc _) ⟨W2.heap.size, 0, none⟩ 1 1 [.string (C.out s1 x.1)] rfl rfl (cell_one_new _ _ _) (by simp [Value.oneCell']) (by rw [HLEN.out]; unfold maxLen; omega) (by rw [HLEN.out]; omega) (by simp; omega) ?_; intro v' w1 hown' hgrow _ hat; obtain ⟨g', cap', rfl⟩ := ownsRow_succ hown'; obtain ⟨hv1, hv2, hr2, hk2, hb2⟩ := hv.appended (by decide) hrow (by omega) (by omega) hown' hgrow; have hc1 := hv1.cell; have hf1 := hv1.frozen))
      refine ⟨HKF2.out.trans (hk2.from _), trivial, by simp; omega, ?_⟩
      rw [List.map_append, List.map_singleton, HSN.out, HPT.out, List.length_append, List.length_singleton, HBUD.out]
      exact HJ2.out.appended HNO.out (by have := hle.out; rw [HPT.out] at this; exact this) hgrow hat hv2 (by simpa using hr2)
  case done =>
    rintro D xs W hD hxs ⟨hpl, hJ⟩ hK
    rw [hxs] at hJ
    have hxl : xs.length = (parts s).length := by rw [← hxs, List.length_map]
    rw [hxl, Nat.sub_self, Nat.add_zero] at hJ
    obtain ⟨v, hv, hrow, hno⟩ := hJ.row
    have hc := hv.cell
    have hlen : (C.pts st (parts s)).1.length = (parts s).length := C.pts_len _ _
    have hpos : 0 < (C.pts st (parts s)).1.length := by rw [hlen]; exact List.length_pos_iff.2 (parts_ne s)
    have hall := hJ.small
    have HJ := Lib.hid hJ
    have HNM := Lib.hid (show C.nm st s = (joinD (C.pts st (parts s)).1, (C.pts st (parts s)).2) from rfl)
    generalize hys : (C.pts st (parts s)).1 = ys at *
    generalize hst : (C.pts st (parts s)).2 = s1 at *
    obtain ⟨gb, cap, cur, rfl, hgb, hgc, hcap, hcm, hcs, hct⟩ : ∃ gb cap cur, v = .slice (some ⟨gb, 0, none⟩) ys.length cap ∧ w.heap.size + 1 ≤ gb ∧ W.heap[gb]? = some (.cells cur 9 (0, 0)) ∧ ys.length ≤ cap ∧ cap ≤ maxLen ∧ cur.size = cap * 1 ∧ cur.toList.take (ys.length * 1) = ys.map Value.string := by
      rcases hrow.2 with ⟨_, h4⟩ | ⟨q, cap, cur, h1, h2, h3, h4, h5, h6, h7⟩
      · omega
      · exact ⟨q, cap, cur, h1, h2, h3, h4, h5, h6, h7⟩
    have hcells : ∀ (j : Nat) (x : ByteArray), ys[j]? = some x → W.cell? ⟨gb, 0 + j, none⟩ = some (.string x) := by
      intro j x hx
      have hj := (List.getElem?_eq_some_iff.1 hx).1
      have e1 : cur.toList[j]? = (ys.map Value.string)[j]? := by rw [← hct, List.getElem?_take]; simp [hj]
      have e2 : cur[j]? = some (.string x) := by
        rw [List.getElem?_map, hx] at e1
        simpa using e1
      rw [Nat.zero_add]
      simp [World.cell?, hgc, e2]
    have hjl : (Lib.join (ys.map (·.data.toList)) [36]).length ≤ 140737488355328 := by
      have h1 := join_len (ys.map (·.data.toList)) lim (fun z hz => by
        obtain ⟨y, hy, rfl⟩ := List.mem_map.1 hz
        exact hall y hy)
      rw [List.length_map] at h1
      have h2 : ys.length * (lim + 1) ≤ 8388609 * (lim + 1) := Nat.mul_le_mul_right _ (by omega)
      have h3 : 8388609 * (lim + 1) ≤ 140737488355328 := by decide
      omega
    have hjoin := Lib.hid (Tryz.strings_Join gb 0 cap ys ⟨#[36]⟩ W hcells (heap_lt hgc) (by omega) hcap hjl)
    clear hcells hjl hall hct hgc hrow hys hst hxs hlen
    gi_wp2_with (refine ⟨trivial, ?_⟩; gi_at_call 122; refine (callsIn_wide.2 hjoin.out).mono ?_; rintro e W3 ⟨rfl, b3⟩)
    obtain ⟨k3, i3⟩ := C.below HJ.out.kept HJ.out.i HJ.out.low b3
    have hK3 : W3.heap[D]? = some (.deferred (some [])) := (b3.block D (heap_lt hK)).trans hK
    have HK3 := Lib.hid k3
    have HI3 := Lib.hid i3
    clear k3 i3 b3
    gi_wp2
    refine ⟨by simp, .inl ⟨_, _, rfl, run_takeDeferred hK3, ?_⟩⟩
    refine ⟨_, results_tmp rfl _ _ _, ?_⟩
    have gD := grownBy_putObj' W3 D (.deferred none)
    have nD : ∀ b, C.O W3 b → b ≠ D := fun b hb e => by
      subst e
      obtain ⟨o, ho, hc⟩ := C.cellsO HI3.out hb (by omega)
      rw [hK3] at ho
      cases ho
      cases hc
    obtain ⟨k4, i4⟩ := C.next HK3.out HI3.out hlow gD.os gD.tape gD.output gD.size (fun b hb => gD.block b (C.ltO HI3.out hb).2 (fun e => nD b hb (by simpa using e))) (fun b hb => gD.block b (Nat.lt_of_lt_of_le hb HK3.out.size) (fun e => absurd (show b = D by simpa using e) (by omega)))
    refine ⟨by rw [HNM.out]; rfl, by rw [HNM.out]; exact i4, k4⟩
  case stop =>
    rintro D c pre W _ _ h _
    exact h.elim
end Go.Proofs.YtciijpahjjoppaaGreat
