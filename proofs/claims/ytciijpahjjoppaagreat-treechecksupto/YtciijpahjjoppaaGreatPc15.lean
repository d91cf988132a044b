/-
  Texts of this proof, put together.
-/
import Derived.Test.YtciijpahjjoppaaGreatPc14
import Derived.Test.YtciijpahjjoppaaGreatPc13
import Derived.Test.YtciijpahjjoppaaGreatPc6
section
namespace Go.Proofs.YtciijpahjjoppaaGreat
open Go.RowKit Go.Deep Go.Maps

theorem wthn4 {kd : Int} (h : kd = 4) : wthn kd 1 3 = false := by subst h; decide
/-- The mode of the one ahead is ByUp. -/
def upAt (l : List (List D)) : Nat → Bool
  | 0 => false
  | j + 1 => modeD (l.getD j []) == 2
theorem ups_next {l : List (List D)} {k : Nat} {x : List D} (hx : l[k]? = some x) (h : UpsTo l k (upAt l k)) (hu : (upAt l k && (modeD x != 2)) = false) : UpsTo l (k + 1) (upAt l (k + 1)) := by
  unfold UpsTo at *
  have e : upAt l (k + 1) = (modeD x == 2) := by
    show (modeD (l.getD k []) == 2) = _
    rw [List.getD_eq_getElem?_getD, hx]; rfl
  rw [h, drop_at hx, upsL_cons, hu, e]
  rfl
theorem ups_bad {l : List (List D)} {k : Nat} {x : List D} (hx : l[k]? = some x) (h : UpsTo l k (upAt l k)) (hu : (upAt l k && (modeD x != 2)) = true) : upsL false l = false := by
  unfold UpsTo at h
  rw [h, drop_at hx, upsL_cons, hu]
  rfl
theorem upsTo_end {l : List (List D)} {b : Bool} (h : UpsTo l l.length b) : upsL false l = true := by
  unfold UpsTo at h
  rw [h, List.drop_length]
  cases b <;> rfl
def okPs (d : Int) (l : List (List D)) : Bool := okAll l (okP d) && upsL false l
theorem okPs_bad {d : Int} {l : List (List D)} {k : Nat} {x : List D} (hx : l[k]? = some x) (h : okP d x = false) : okPs d l = false := by
  unfold okPs; rw [okAll_bad hx h]; rfl
theorem okPs_ups {d : Int} {l : List (List D)} (h : upsL false l = false) : okPs d l = false := by
  unfold okPs; rw [h, Bool.and_false]
set_option maxRecDepth 100000 in
set_option maxHeartbeats 4000000 in
theorem refParams_any (w0 : World) (d : Int) (hd : d = 0 ∨ d = 1) (a : Option Addr) (len cap : Nat) (l : List (List D)) (hA : At w0 (.slice a len cap) (.row l)) (hs : ∀ x ∈ l, ShP x) (W : World) (hW : Below w0.heap.size w0 W) :
    Calls Tryz.prog 80 #[.int .i64 d, .slice a len cap] W fun e W' => e = .returned (.bool (okPs d l)) ∧ Below W.heap.size W W' := by
  have HA := Lib.hid hA
  have HS := Lib.hid hs
  have HW := Lib.hid hW
  have HD := Lib.hid hd
  have hle := hA.len_le
  have HL := Lib.hid hA.len_eq.1
  clear hA hs hW hd
  go_enter Tryz.func80, Tryz.ntmps80
  go_wp2_with fail
  go_loopw [5] (fun i wr => ∃ k : Nat, k ≤ len ∧ i = .int .i64 k ∧ Hid ((l.take k).all (okP d) = true) ∧ Hid (UpsTo l k (upAt l k)) ∧ Hid (Below W.heap.size W wr)) (fun i _ => len - (intOf i).toNat)
  case atStart => exact ⟨0, Nat.zero_le _, rfl, Lib.hid rfl, Lib.hid (by unfold UpsTo; rw [List.drop_zero]; rfl), Lib.hid (Below.refl _ _)⟩
  case round =>
    obtain ⟨k, hk, rfl, HT, HV, HB⟩ := hrel
    by_cases hlt : k < len
    · obtain ⟨b, o, vs, ds, rfl, hbl, hx, hv, hc⟩ := HA.out.elem hlt
      obtain ⟨nm, kd, sz, tn, md, hds, hvs, i0, _, _, i3, _⟩ := hv.openP (HS.out _ (List.mem_of_getElem? hx))
      subst hvs
      have hdl : ds.length = 5 := by rw [hds]; rfl
      rw [hdl] at hc
      have B0 := HW.out.trans (HB.out.mono HW.out.size)
      have hbw : b < wr.heap.size := Nat.lt_of_lt_of_le hbl B0.size
      have c0 := (B0.cell (p := ⟨b, o + k * 5, none⟩) hbl).trans (hc 0 _ rfl)
      have c1 := (B0.cell (p := ⟨b, o + k * 5 + 1, none⟩) hbl).trans (hc 1 _ rfl)
      have c2 := (B0.cell (p := ⟨b, o + k * 5 + 2, none⟩) hbl).trans (hc 2 _ rfl)
      have c3 := (B0.cell (p := ⟨b, o + k * 5 + 3, none⟩) hbl).trans (hc 3 _ rfl)
      have c4 := (B0.cell (p := ⟨b, o + k * 5 + 4, none⟩) hbl).trans (hc 4 _ rfl)
      have HX := Lib.hid hx
      have HF := Lib.hid (show okP d ds = (okName d nm && (okType d kd sz tn && okMode d kd sz md)) by rw [hds]; rfl)
      have HMD := Lib.hid (show modeD ds = md by rw [hds]; rfl)
      have HN1 := Lib.hid ((Below.refl wr.heap.size wr).alloc (Nat.le_refl _) (.cells #[.string nm, .int .i64 kd, .int .i64 sz, .string tn, .int .i64 md] 133))
      have KX := Lib.hid (heap_new wr (.cells #[.string nm, .int .i64 kd, .int .i64 sz, .string tn, .int .i64 md] 133))
      have HB0 := Lib.hid B0
      clear hx hds hdl hc B0 hv
      go_wp2_with fail
      refine (refName_any d nm _ i0).mono ?_
      rintro e w1 ⟨rfl, b1⟩
      have N1 := HN1.out.trans (b1.mono HN1.out.size)
      have B1 := Lib.hid (HB.out.trans (N1.mono HB.out.size))
      have Z1 := Lib.hid (HB0.out.trans (N1.mono HB0.out.size))
      have K1 := Lib.hid ((b1.block _ (heap_lt KX.out)).trans KX.out)
      have cK := box_cells K1.out
      clear b1 N1 c0 c1 c2 c3 c4
      cases h1 : okName d nm with
      | false =>
        have HE := Lib.hid (okPs_bad HX.out (by rw [HF.out, h1]; rfl))
        clear h1
        go_wp2_with fail
        go_ret
        exact ⟨by rw [HE.out]; rfl, B1.out⟩
      | true =>
      rw [h1, Bool.true_and] at HF
      clear h1
      go_wp2_with fail
      refine (refType_any d kd sz tn i3 _).mono ?_
      rintro e w2 ⟨rfl, b2⟩
      have B2 := Lib.hid (B1.out.trans (b2.mono B1.out.size))
      have Z2 := Lib.hid (Z1.out.trans (b2.mono Z1.out.size))
      have K2 := Lib.hid ((b2.block _ (heap_lt K1.out)).trans K1.out)
      clear b2 cK
      have cK := box_cells K2.out
      have hbw2 : b < w2.heap.size := Nat.lt_of_lt_of_le hbl Z2.out.size
      cases h2 : okType d kd sz tn with
      | false =>
        have HE := Lib.hid (okPs_bad HX.out (by rw [HF.out, h2]; rfl))
        clear h2
        go_wp2_with fail
        go_ret
        exact ⟨by rw [HE.out]; rfl, B2.out⟩
      | true =>
      rw [h2, Bool.true_and] at HF
      have HTY := Lib.hid h2
      clear h2
      by_cases hneg : md < 0
      · have hm1 : decide (md < 0) = true := by simpa using hneg
        have HE := Lib.hid (okPs_bad HX.out (by
          rw [HF.out]; unfold okMode
          rw [if_neg (by simp; omega), if_neg (by simp; omega), show (md == 2) = false by simp; omega]; rfl))
        go_wp2_with fail
        go_ret
        exact ⟨by rw [HE.out]; rfl, B2.out⟩
      by_cases hbig : 2 < md
      · have hm1 : decide (md < 0) = false := by simpa using hneg
        have hm2 : decide (2 < md) = true := by simpa using hbig
        have HE := Lib.hid (okPs_bad HX.out (by
          rw [HF.out]; unfold okMode
          rw [if_neg (by simp; omega), if_neg (by simp; omega), show (md == 2) = false by simp; omega]; rfl))
        go_wp2_with fail
        go_ret
        exact ⟨by rw [HE.out]; rfl, B2.out⟩
      have g1 : decide (md < 0) = false := by simpa using hneg
      have g2 : decide (2 < md) = false := by simpa using hbig
      by_cases hm : md = 2
      · have hm2 : (md == 2) = true := by simpa using hm
        have hm2' : (md != 2) = false := by rw [bne, hm2]; rfl
        have hm0 : (md == 0) = false := by simp; omega
        have HOM := Lib.hid (show okP d ds = (d == 1) by
          rw [HF.out]; unfold okMode
          rw [if_neg (by simp; omega), if_neg (by simp; omega), hm2, Bool.true_and])
        have HU := Lib.hid (show (upAt l k && (modeD ds != 2)) = false by rw [HMD.out, hm2', Bool.and_false])
        clear hm hneg hbig
        rcases HD.out with rfl | rfl
        · have HE := Lib.hid (okPs_bad HX.out (HOM.out.trans rfl))
          go_wp2_with fail
          go_ret
          exact ⟨by rw [HE.out]; rfl, B2.out⟩
        · have HE1 := Lib.hid (all_take_succ (f := okP 1) HX.out HT.out (HOM.out.trans rfl))
          have HE2 := Lib.hid (ups_next HX.out HV.out HU.out)
          go_wp2_with fail
          go_roundw
          case rel => exact ⟨k + 1, by omega, by go_num, HE1, HE2, B2⟩
          case measure => simp [intOf]; omega
      have hme : (md == 2) = false := by simpa using hm
      have hm2 : (md != 2) = true := by rw [bne, hme]; rfl
      by_cases hmz : md = 0
      · have hm0 : (md == 0) = true := by simpa using hmz
        have HOM := Lib.hid (show okP d ds = (wthn kd 1 3 && (sz == 0)) by
          rw [HF.out]; unfold okMode
          rw [if_pos (by simpa using hmz)])
        clear hm hneg hbig hmz
        cases hs0 : sz == 0 with
        | false =>
          have hs0' : (sz != 0) = true := by rw [bne, hs0]; rfl
          have HE := Lib.hid (okPs_bad HX.out (by rw [HOM.out, hs0, Bool.and_false]))
          go_wp2_with fail
          go_ret
          exact ⟨by rw [HE.out]; rfl, B2.out⟩
        | true =>
        have hs0' : (sz != 0) = false := by rw [bne, hs0]; rfl
        cases hk4 : kd == 4 with
        | true =>
          have HE := Lib.hid (okPs_bad HX.out (by rw [HOM.out, show wthn kd 1 3 = false from wthn4 (by simpa using hk4)]; rfl))
          go_wp2_with fail
          go_ret
          exact ⟨by rw [HE.out]; rfl, B2.out⟩
        | false =>
        have HOK := Lib.hid (show okP d ds = true by
          rw [HOM.out, hs0, Bool.and_true]
          have h := HTY.out
          unfold okType at h
          rw [hk4] at h
          simp only [Bool.false_eq_true, if_false, Bool.and_eq_true] at h
          exact h.1)
        by_cases hk0 : k = 0
        · have hkd : decide ((0 : Int) < (k : Int)) = false := by simp; omega
          have hkn : decide (0 < k) = false := by simp; omega
          have hkm : ¬ 0 < k := by omega
          have HU := Lib.hid (show (upAt l k && (modeD ds != 2)) = false by rw [hk0]; rfl)
          have HE1 := Lib.hid (all_take_succ (f := okP d) HX.out HT.out HOK.out)
          have HE2 := Lib.hid (ups_next HX.out HV.out HU.out)
          clear hk0
          go_wp2_with fail
          go_roundw
          case rel => exact ⟨k + 1, by omega, by go_num, HE1, HE2, B2⟩
          case measure => simp [intOf]; omega
        · have hkd : decide ((0 : Int) < (k : Int)) = true := by simp; omega
          obtain ⟨j, hj⟩ : ∃ j, k = j + 1 := ⟨k - 1, by omega⟩
          have hsub : (k : Int) - 1 = (j : Int) := by omega
          have hjl : j < len := by omega
          obtain ⟨b', o', vs', ds', hab, hbl', hx', hv', hc'⟩ := HA.out.elem hjl
          obtain ⟨rfl, rfl⟩ : b = b' ∧ o = o' := by simpa using hab
          obtain ⟨nm', kd', sz', tn', md', hds', hvs', _⟩ := hv'.openP (HS.out _ (List.mem_of_getElem? hx'))
          subst hvs'
          have hdl' : ds'.length = 5 := by rw [hds']; rfl
          rw [hdl'] at hc'
          have cp := (Z2.out.cell (p := ⟨b, o + j * 5 + 4, none⟩) hbl').trans (hc' 4 _ rfl)
          have HUA := Lib.hid (show (upAt l k && (modeD ds != 2)) = (md' == 2) by
            rw [hj]
            show ((modeD (l.getD j []) == 2) && (modeD ds != 2)) = _
            rw [List.getD_eq_getElem?_getD, hx', HMD.out, hm2, hds']
            simp [modeD])
          have HJ := Lib.hid hj
          clear hab hx' hds' hdl' hc' hv' hk0 hj
          cases hp : md' == 2 with
          | true =>
            have HE := Lib.hid (okPs_ups (d := d) (ups_bad HX.out HV.out (HUA.out.trans hp)))
            go_wp2_with fail
            go_ret
            exact ⟨by rw [HE.out]; rfl, B2.out⟩
          | false =>
            have HE1 := Lib.hid (all_take_succ (f := okP d) HX.out HT.out HOK.out)
            have HE2 := Lib.hid (ups_next HX.out HV.out (HUA.out.trans hp))
            go_wp2_with fail
            go_roundw
            case rel => exact ⟨k + 1, by omega, by go_num, HE1, HE2, B2⟩
            case measure => simp [intOf]; omega
      · have hm0 : (md == 0) = false := by simpa using hmz
        have hm1 : (md == 1) = true := by simp; omega
        have HOK := Lib.hid (show okP d ds = true by
          rw [HF.out]; unfold okMode
          rw [if_neg (by simpa using hmz), if_pos hm1])
        clear hm hneg hbig hmz hm1
        by_cases hk0 : k = 0
        · have hkd : decide ((0 : Int) < (k : Int)) = false := by simp; omega
          have hkn : decide (0 < k) = false := by simp; omega
          have hkm : ¬ 0 < k := by omega
          have HU := Lib.hid (show (upAt l k && (modeD ds != 2)) = false by rw [hk0]; rfl)
          have HE1 := Lib.hid (all_take_succ (f := okP d) HX.out HT.out HOK.out)
          have HE2 := Lib.hid (ups_next HX.out HV.out HU.out)
          clear hk0
          go_wp2_with fail
          go_roundw
          case rel => exact ⟨k + 1, by omega, by go_num, HE1, HE2, B2⟩
          case measure => simp [intOf]; omega
        · have hkd : decide ((0 : Int) < (k : Int)) = true := by simp; omega
          obtain ⟨j, hj⟩ : ∃ j, k = j + 1 := ⟨k - 1, by omega⟩
          have hsub : (k : Int) - 1 = (j : Int) := by omega
          have hjl : j < len := by omega
          obtain ⟨b', o', vs', ds', hab, hbl', hx', hv', hc'⟩ := HA.out.elem hjl
          obtain ⟨rfl, rfl⟩ : b = b' ∧ o = o' := by simpa using hab
          obtain ⟨nm', kd', sz', tn', md', hds', hvs', _⟩ := hv'.openP (HS.out _ (List.mem_of_getElem? hx'))
          subst hvs'
          have hdl' : ds'.length = 5 := by rw [hds']; rfl
          rw [hdl'] at hc'
          have cp := (Z2.out.cell (p := ⟨b, o + j * 5 + 4, none⟩) hbl').trans (hc' 4 _ rfl)
          have HUA := Lib.hid (show (upAt l k && (modeD ds != 2)) = (md' == 2) by
            rw [hj]
            show ((modeD (l.getD j []) == 2) && (modeD ds != 2)) = _
            rw [List.getD_eq_getElem?_getD, hx', HMD.out, hm2, hds']
            simp [modeD])
          have HJ := Lib.hid hj
          clear hab hx' hds' hdl' hc' hv' hk0 hj
          cases hp : md' == 2 with
          | true =>
            have HE := Lib.hid (okPs_ups (d := d) (ups_bad HX.out HV.out (HUA.out.trans hp)))
            go_wp2_with fail
            go_ret
            exact ⟨by rw [HE.out]; rfl, B2.out⟩
          | false =>
            have HE1 := Lib.hid (all_take_succ (f := okP d) HX.out HT.out HOK.out)
            have HE2 := Lib.hid (ups_next HX.out HV.out (HUA.out.trans hp))
            go_wp2_with fail
            go_roundw
            case rel => exact ⟨k + 1, by omega, by go_num, HE1, HE2, B2⟩
            case measure => simp [intOf]; omega
    · obtain rfl : k = len := by omega
      have HE := Lib.hid (show okPs d l = decide ((k : Int) ≤ 512) by
        unfold okPs okAll
        have h := HT.out
        have h2 := HV.out
        rw [show l.take k = l by rw [← HL.out, List.take_length]] at h
        rw [← HL.out] at h2
        rw [h, upsTo_end h2, Bool.and_true, Bool.and_true, HL.out, Bool.eq_iff_iff, decide_eq_true_eq, decide_eq_true_eq]
        omega)
      cases hq : decide ((k : Int) ≤ 512) with
      | true =>
        rw [hq] at HE
        go_wp2_with fail
        go_ret
        exact ⟨by rw [HE.out]; rfl, HB.out⟩
      | false =>
        rw [hq] at HE
        go_wp2_with fail
        go_ret
        exact ⟨by rw [HE.out]; rfl, HB.out⟩
end Go.Proofs.YtciijpahjjoppaaGreat
end
section
namespace Go.Proofs.YtciijpahjjoppaaGreat
open Go.RowKit Go.Deep Go.Maps Go.Sort

theorem isIn_snoc (s : ByteArray) (l : List ByteArray) (y : ByteArray) : isIn s (l ++ [y]) = (isIn s l || (y.toList == s.toList)) := by
  unfold isIn
  simp [List.any_append]
def UqTo (l : List (List D)) (k : Nat) : Prop := uniq [] (nmsR l) = uniq (nmsR (l.take k)) (nmsR (l.drop k))
theorem uq_zero (l : List (List D)) : UqTo l 0 := by unfold UqTo; simp [nmsR]
theorem drop_cons {l : List (List D)} {k : Nat} {x : List D} (hx : l[k]? = some x) : l.drop k = x :: l.drop (k + 1) := by
  obtain ⟨h, e⟩ := List.getElem?_eq_some_iff.1 hx
  rw [← e]
  exact List.drop_eq_getElem_cons h
theorem uq_cons {l : List (List D)} {k : Nat} {x : List D} (hx : l[k]? = some x) : uniq (nmsR (l.take k)) (nmsR (l.drop k)) = (!isIn (nmR x) (nmsR (l.take k)) && uniq (nmsR (l.take (k + 1))) (nmsR (l.drop (k + 1)))) := by
  rw [nms_take hx, drop_cons hx]
  rfl
theorem uq_succ {l : List (List D)} {k : Nat} {x : List D} (hx : l[k]? = some x) (h : UqTo l k) (hi : isIn (nmR x) (nmsR (l.take k)) = false) : UqTo l (k + 1) := by
  unfold UqTo at *
  rw [h, uq_cons hx, hi]
  rfl
theorem okRs_bad {g : List D → Bool} {l : List (List D)} {k : Nat} {x : List D} (hx : l[k]? = some x) (h : g x = false) : okRs g l = false := by
  unfold okRs
  rw [okAll_bad hx h, Bool.false_and]
theorem okRs_dup {g : List D → Bool} {l : List (List D)} {k : Nat} {x : List D} (hx : l[k]? = some x) (h : UqTo l k) (hi : isIn (nmR x) (nmsR (l.take k)) = true) : okRs g l = false := by
  unfold okRs
  unfold UqTo at h
  rw [h, uq_cons hx, hi]
  simp
theorem uq_end {l : List (List D)} (h : UqTo l l.length) : uniq [] (nmsR l) = true := by
  unfold UqTo at h
  rw [h, List.drop_length]
  rfl
theorem isIn_up {s : ByteArray} {l : List (List D)} {j : Nat} {y : List D} (hy : l[j]? = some y) (h : isIn s (nmsR (l.take j)) = false) (hn : ((nmR y).toList == s.toList) = false) : isIn s (nmsR (l.take (j + 1))) = false := by
  rw [nms_take hy, isIn_snoc, h, hn]
  rfl
theorem isIn_hit {s : ByteArray} {l : List (List D)} {j k : Nat} {y : List D} (hy : l[j]? = some y) (hj : j < k) (hn : ((nmR y).toList == s.toList) = true) : isIn s (nmsR (l.take k)) = true := by
  unfold isIn nmsR
  rw [List.any_eq_true]
  refine ⟨nmR y, List.mem_map.2 ⟨y, ?_, rfl⟩, hn⟩
  refine List.mem_of_getElem? (i := j) ?_
  rw [List.getElem?_take, if_pos hj]
  exact hy
/-- A block that stays. -/
structure Bxb (w : World) (r : Nat) (p : Obj) (W : World) : Prop where
  a : W.heap[r]? = some p
  bel : Below w.heap.size w W
theorem Bxb.step {w : World} {r : Nat} {p : Obj} {W W' : World} (h : Bxb w r p W) (b : Below W.heap.size W W') : Bxb w r p W' :=
  ⟨(b.block _ (heap_lt h.a)).trans h.a, h.bel.trans (b.mono h.bel.size)⟩
theorem Bxb.on {w0 w : World} {r : Nat} {p : Obj} {W : World} (h : Bxb w r p W) (k : Below w0.heap.size w0 w) : Below w0.heap.size w0 W := k.trans (h.bel.mono k.size)
theorem rs_range (rs : Int) : ((rs == 0) || wthn rs 1 3) = (!decide (rs < 0) && !decide (3 < rs)) := by
  unfold wthn
  rw [Bool.eq_iff_iff]
  simp
  omega
theorem okRx_ref (d : Int) (fR fS : List D → Bool) (m0 m1 : List (List D)) (nm : ByteArray) (rs : Int) (ps vr inn bd en : List (List D)) :
    okRx d fR fS [.row m0, .row m1, .str nm, .int rs, .row ps, .row vr, .row inn, .row bd, .row en] = ((okNs m0 && okNs m1) && (okNs en && (okR d nm && (!decide (rs < 0) && (!decide (3 < rs) && (((d == 0) || (inn.length == 0)) && (okPs d ps && (okAll vr (okV d) && (okRs fR inn && okAll bd fS))))))))) := by
  show ((((okNs m0 && okNs m1) && okR d nm) && ((rs == 0) || wthn rs 1 3)) && (okAll ps (okP d) && (upsL false ps && (okAll vr (okV d) && (((d == 0) || (inn.length == 0)) && (okRs fR inn && (okAll bd fS && okNs en))))))) = _
  rw [rs_range]
  unfold okPs
  rw [Bool.eq_iff_iff]
  simp only [Bool.and_eq_true]
  constructor
  · intro h; simp_all
  · intro h; simp_all
set_option maxRecDepth 100000 in
set_option maxHeartbeats 16000000 in
theorem refRoutines_step (w0 : World) (d : Int) (hd : d = 0 ∨ d = 1) (dp : Nat) (hdp : dp ≤ 48) (fR : List D → Bool) (a : Option Addr) (len cap : Nat) (l : List (List D)) (hA : At w0 (.slice a len cap) (.row l)) (hs : ∀ x ∈ l, ShR x) (hb : mRows l ≤ 2000000)
    (hI : ∀ (x : List D) (m0 m1 : List (List D)) (nm : ByteArray) (rs : Int) (ps vr inn bd en : List (List D)) (ina : Option Addr) (inc : Nat), x ∈ l → x = [.row m0, .row m1, .str nm, .int rs, .row ps, .row vr, .row inn, .row bd, .row en] → At w0 (.slice ina inn.length inc) (.row inn) → (∀ y ∈ inn, ShR y) → ∀ W, Below w0.heap.size w0 W →
      Calls Tryz.prog 33 #[.int .i64 d, .slice ina inn.length inc, .int .i64 ((dp + 1 : Nat) : Int)] W fun e W' => e = .returned (.bool (okRs fR inn)) ∧ Below W.heap.size W W') (W : World) (hW : Below w0.heap.size w0 W) :
    Calls Tryz.prog 33 #[.int .i64 d, .slice a len cap, .int .i64 dp] W fun e W' => e = .returned (.bool (okRs (okRx d fR (okS d 48)) l)) ∧ Below W.heap.size W W' := by
  have HA := Lib.hid hA
  have HS := Lib.hid hs
  have HI := Lib.hid hI
  have HW := Lib.hid hW
  have HD := Lib.hid hd
  have HBM := Lib.hid hb
  have hle := hA.len_le
  have HL := Lib.hid hA.len_eq.1
  have hdp2 : decide ((48 : Int) < (dp : Int)) = false := by simp; omega
  clear hA hs hW hI hd hb
  go_enter Tryz.func33, Tryz.ntmps33
  go_wp2_with fail
  go_loopw [7] (fun i wr => ∃ k : Nat, k ≤ len ∧ i = .int .i64 k ∧ Hid ((l.take k).all (okRx d fR (okS d 48)) = true) ∧ Hid (UqTo l k) ∧ Hid (Below W.heap.size W wr)) (fun i _ => len - (intOf i).toNat)
  case atStart => exact ⟨0, Nat.zero_le _, rfl, Lib.hid rfl, Lib.hid (uq_zero _), Lib.hid (Below.refl _ _)⟩
  case round =>
    obtain ⟨k, hk, rfl, HT, HU, HB⟩ := hrel
    by_cases hlt : k < len
    · obtain ⟨b, o, vs, ds, rfl, hbl, hx, hv, hc⟩ := HA.out.elem hlt
      obtain ⟨m0, m1, nm, rs, ps, vr, inn, bd, en, m0a, m0c, m1a, m1c, psa, psc, vra, vrc, ina, inc, bda, bdc, ena, enc, hds, hvs, a_m0, a_m1, i_nm, _, a_ps, a_vr, a_in, a_bd, a_en, t_m0, t_m1, t_ps, t_vr, t_in, t_bd, t_en⟩ := hv.openR (HS.out _ (List.mem_of_getElem? hx))
      subst hvs
      have hdl : ds.length = 9 := by rw [hds]; rfl
      rw [hdl] at hc
      have hbm : mRow ds ≤ 2000000 := by have := mRows_mem (List.mem_of_getElem? hx); have := HBM.out; omega
      have hbm2 : nm.size ≤ 2000000 ∧ mRows bd ≤ 2000000 := by rw [hds] at hbm; simp only [mRow, mD] at hbm; omega
      have B0 := HW.out.trans (HB.out.mono HW.out.size)
      have hbw : b < wr.heap.size := Nat.lt_of_lt_of_le hbl B0.size
      have C0 := Lib.hid (show ∀ j v, ([.slice m0a m0.length m0c, .slice m1a m1.length m1c, .string nm, .int .i64 rs, .slice psa ps.length psc, .slice vra vr.length vrc, .slice ina inn.length inc, .slice bda bd.length bdc, .slice ena en.length enc] : List Value)[j]? = some v → wr.cell? ⟨b, o + k * 9 + j, none⟩ = some v from fun j v hv => (B0.cell (p := ⟨b, o + k * 9 + j, none⟩) hbl).trans (hc j v hv))
      have hvl := Lib.hid (show ([.slice m0a m0.length m0c, .slice m1a m1.length m1c, .string nm, .int .i64 rs, .slice psa ps.length psc, .slice vra vr.length vrc, .slice ina inn.length inc, .slice bda bd.length bdc, .slice ena en.length enc] : List Value).length = 9 from rfl)
      have hvo := Lib.hid hv.one
      have KM := Lib.hid (fun (W : World) (hW : Below w0.heap.size w0 W) => refMarks_any w0 m0 m1 m0a m0c m1a m1c a_m0 a_m1 t_m0 t_m1 W hW)
      have KE := Lib.hid (fun (W : World) (hW : Below w0.heap.size w0 W) => refNotes_any w0 ena en.length enc en a_en t_en W hW)
      have KR := Lib.hid (fun (W : World) => refRoutine_any d HD.out nm W hbm2.1)
      have KP := Lib.hid (fun (W : World) (hW : Below w0.heap.size w0 W) => refParams_any w0 d HD.out psa ps.length psc ps a_ps t_ps W hW)
      have KV := Lib.hid (fun (W : World) (hW : Below w0.heap.size w0 W) => refVars_any w0 d vra vr.length vrc vr a_vr t_vr W hW)
      have KI := Lib.hid (fun (W : World) (hW : Below w0.heap.size w0 W) => HI.out ds m0 m1 nm rs ps vr inn bd en ina inc (List.mem_of_getElem? hx) hds a_in t_in W hW)
      have KB := Lib.hid (fun (W : World) (hW : Below w0.heap.size w0 W) => refStmts_any w0 d 1 (okS d 48) bda bd.length bdc bd a_bd t_bd (fun y hy us hu U hU => refStmt_any w0 d HD.out 48 1 rfl y us (t_bd y hy) (by have := mRows_mem hy; omega) hu U hU) W hW)
      have HX := Lib.hid hx
      have HNM := Lib.hid (show nmR ds = nm from (congrArg nmR hds).trans rfl)
      have HF := Lib.hid (show okRx d fR (okS d 48) ds = ((okNs m0 && okNs m1) && (okNs en && (okR d nm && (!decide (rs < 0) && (!decide (3 < rs) && (((d == 0) || (inn.length == 0)) && (okPs d ps && (okAll vr (okV d) && (okRs fR inn && okAll bd (okS d 48)))))))))) from by rw [hds]; exact okRx_ref d fR (okS d 48) m0 m1 nm rs ps vr inn bd en)
      have S0 := Lib.hid (show Bxb W wr.heap.size (.cells ⟨[.slice m0a m0.length m0c, .slice m1a m1.length m1c, .string nm, .int .i64 rs, .slice psa ps.length psc, .slice vra vr.length vrc, .slice ina inn.length inc, .slice bda bd.length bdc, .slice ena en.length enc]⟩ 80) (wr.alloc (.cells ⟨[.slice m0a m0.length m0c, .slice m1a m1.length m1c, .string nm, .int .i64 rs, .slice psa ps.length psc, .slice vra vr.length vrc, .slice ina inn.length inc, .slice bda bd.length bdc, .slice ena en.length enc]⟩ 80)) from ⟨heap_new _ _, HB.out.trans (((Below.refl wr.heap.size wr).alloc (Nat.le_refl _) _).mono HB.out.size)⟩)
      have cA := box_cells S0.out.a
      obtain ⟨rb, hrb⟩ : ∃ rb, rb = wr.heap.size := ⟨_, rfl⟩
      clear hx hds hdl hc hv hbm hbm2 B0 a_m0 a_m1 a_ps a_vr a_in a_bd a_en t_m0 t_m1 t_ps t_vr t_in t_bd t_en hrb rb i_nm
      go_wp2_with (first
        | ((with_reducible refine wp_loadAgg (o := ⟨some 19, _, _, _, _, _⟩) rfl (.tmp 18) 80 rfl 9 Tryz.isAgg80 Tryz.sizeOf80 b (o + k * 9) ?_ [.slice m0a m0.length m0c, .slice m1a m1.length m1c, .string nm, .int .i64 rs, .slice psa ps.length psc, .slice vra vr.length vrc, .slice ina inn.length inc, .slice bda bd.length bdc, .slice ena en.length enc] hvl.out C0.out ?_); rfl)
        | ((with_reducible refine wp_storeNew (o := ⟨none, .store 80 (.tmp 8) (.tmp 19), _, _, _, _⟩) rfl (.tmp 8) (.tmp 19) 80 rfl 9 Tryz.sizeOf80 _ ?_ ?_ [.slice m0a m0.length m0c, .slice m1a m1.length m1c, .string nm, .int .i64 rs, .slice psa ps.length psc, .slice vra vr.length vrc, .slice ina inn.length inc, .slice bda bd.length bdc, .slice ena en.length enc] ?_ hvl.out hvo.out ?_); rfl; rfl; rfl))
      refine (KM.out _ (S0.out.on HW.out)).mono ?_
      rintro e w1 ⟨rfl, b1⟩
      have S1 := Lib.hid (S0.out.step b1)
      clear b1 cA
      have cA := box_cells S1.out.a
      cases h1 : (okNs m0 && okNs m1) with
      | false =>
        have HE := Lib.hid (okRs_bad (g := okRx d fR (okS d 48)) HX.out (by rw [HF.out, h1]; rfl))
        clear h1
        go_wp2_with fail
        go_ret
        exact ⟨by rw [HE.out]; rfl, S1.out.bel⟩
      | true =>
      rw [h1, Bool.true_and] at HF
      clear h1
      go_wp2_with fail
      refine (KE.out _ (S1.out.on HW.out)).mono ?_
      rintro e w2 ⟨rfl, b2⟩
      have S2 := Lib.hid (S1.out.step b2)
      clear b2 cA
      have cA := box_cells S2.out.a
      cases h2 : okNs en with
      | false =>
        have HE := Lib.hid (okRs_bad (g := okRx d fR (okS d 48)) HX.out (by rw [HF.out, h2]; rfl))
        clear h2
        go_wp2_with fail
        go_ret
        exact ⟨by rw [HE.out]; rfl, S2.out.bel⟩
      | true =>
      rw [h2, Bool.true_and] at HF
      clear h2
      go_wp2_with fail
      refine (KR.out _).mono ?_
      rintro e w3 ⟨rfl, b3⟩
      have S3 := Lib.hid (S2.out.step b3)
      clear b3 cA
      have cA := box_cells S3.out.a
      cases h3 : okR d nm with
      | false =>
        have HE := Lib.hid (okRs_bad (g := okRx d fR (okS d 48)) HX.out (by rw [HF.out, h3]; rfl))
        clear h3
        go_wp2_with fail
        go_ret
        exact ⟨by rw [HE.out]; rfl, S3.out.bel⟩
      | true =>
      rw [h3, Bool.true_and] at HF
      clear h3
      cases hra : decide (rs < 0) with
      | true =>
        have HE := Lib.hid (okRs_bad (g := okRx d fR (okS d 48)) HX.out (by rw [HF.out, hra]; rfl))
        go_wp2_with fail
        go_ret
        exact ⟨by rw [HE.out]; rfl, S3.out.bel⟩
      | false =>
      rw [hra, Bool.not_false, Bool.true_and] at HF
      cases hrb : decide (3 < rs) with
      | true =>
        have HE := Lib.hid (okRs_bad (g := okRx d fR (okS d 48)) HX.out (by rw [HF.out, hrb]; rfl))
        go_wp2_with fail
        go_ret
        exact ⟨by rw [HE.out]; rfl, S3.out.bel⟩
      | false =>
      rw [hrb, Bool.not_false, Bool.true_and] at HF
      go_wp2_with fail
      clear hra hrb
      obtain ⟨wo, rfl⟩ : ∃ wo, wo = wr := ⟨_, rfl⟩
      go_loopw [9] (fun i wr => ∃ j : Nat, j ≤ k ∧ i = .int .i64 j ∧ Hid (isIn nm (nmsR (l.take j)) = false) ∧ Hid (Bxb W wo.heap.size (.cells ⟨[.slice m0a m0.length m0c, .slice m1a m1.length m1c, .string nm, .int .i64 rs, .slice psa ps.length psc, .slice vra vr.length vrc, .slice ina inn.length inc, .slice bda bd.length bdc, .slice ena en.length enc]⟩ 80) wr)) (fun i _ => k - (intOf i).toNat)
      case atStart => exact ⟨0, Nat.zero_le _, rfl, Lib.hid rfl, S3⟩
      case round =>
        obtain ⟨j, hj, rfl, HN, SW⟩ := hrel
        clear cA
        have cA := box_cells SW.out.a
        by_cases hjk : j < k
        · obtain ⟨b2, o2, us, es, hab, hbl2, hy, hu, hc2⟩ := HA.out.elem (show j < len by omega)
          obtain ⟨rfl, rfl⟩ : b = b2 ∧ o = o2 := by cases hab; exact ⟨rfl, rfl⟩
          obtain ⟨y0, y1, ynm, yrs, yps, yvr, yinn, ybd, yen, y0a, y0c, y1a, y1c, ypsa, ypsc, yvra, yvrc, yina, yinc, ybda, ybdc, yena, yenc, hes, hus, _⟩ := hu.openR (HS.out _ (List.mem_of_getElem? hy))
          have hel : es.length = 9 := by rw [hes]; rfl
          rw [hel] at hc2
          have B2 := SW.out.on HW.out
          have hbw2 : b < wr.heap.size := Nat.lt_of_lt_of_le hbl B2.size
          have d2 := (B2.cell (p := ⟨b, o + j * 9 + 2, none⟩) hbl).trans (hc2 2 (.string ynm) (by rw [hus]; rfl))
          have HY := Lib.hid hy
          have HYN := Lib.hid (show nmR es = ynm from (congrArg nmR hes).trans rfl)
          clear hy hu hc2 hes hus hel B2 hab
          cases hq : ynm.toList == nm.toList with
          | true =>
            have HE := Lib.hid (okRs_dup (g := okRx d fR (okS d 48)) HX.out HU.out (by rw [HNM.out]; exact isIn_hit HY.out hjk (by rw [HYN.out]; exact hq)))
            go_wp2_with fail
            go_quiet (fail)
            go_wp2_with fail
            go_ret
            exact ⟨by rw [HE.out]; rfl, below_drewN SW.out.bel _⟩
          | false =>
          have HN1 := Lib.hid (isIn_up HY.out HN.out (by rw [HYN.out]; exact hq))
          go_wp2_with fail
          go_quiet (fail)
          go_wp2_with fail
          go_roundw
          case rel => exact ⟨j + 1, by omega, by go_num, HN1, Lib.hid (SW.out.step (below_drewN (Below.refl _ _) _))⟩
          case measure => simp [intOf]; omega
        · obtain rfl : j = k := by omega
          have HU1 := Lib.hid (uq_succ HX.out HU.out (by rw [HNM.out]; exact HN.out))
          have S4 := SW
          rcases HD.out with rfl | rfl
          · rw [show (((0 : Int) == 0) || (inn.length == 0)) = true from rfl, Bool.true_and] at HF
            go_wp2_with fail
            refine (KP.out _ (S4.out.on HW.out)).mono ?_
            rintro e w5 ⟨rfl, b5⟩
            have S5 := Lib.hid (S4.out.step b5)
            clear b5 cA
            have cA := box_cells S5.out.a
            cases h5 : okPs 0 ps with
            | false =>
              have HE := Lib.hid (okRs_bad (g := okRx 0 fR (okS 0 48)) HX.out (by rw [HF.out, h5]; rfl))
              clear h5
              go_wp2_with fail
              go_ret
              exact ⟨by rw [HE.out]; rfl, S5.out.bel⟩
            | true =>
            rw [h5, Bool.true_and] at HF
            clear h5
            go_wp2_with fail
            refine (KV.out _ (S5.out.on HW.out)).mono ?_
            rintro e w6 ⟨rfl, b6⟩
            have S6 := Lib.hid (S5.out.step b6)
            clear b6 cA
            have cA := box_cells S6.out.a
            cases h6 : okAll vr (okV 0) with
            | false =>
              have HE := Lib.hid (okRs_bad (g := okRx 0 fR (okS 0 48)) HX.out (by rw [HF.out, h6]; rfl))
              clear h6
              go_wp2_with fail
              go_ret
              exact ⟨by rw [HE.out]; rfl, S6.out.bel⟩
            | true =>
            rw [h6, Bool.true_and] at HF
            clear h6
            go_wp2_with fail
            refine (KI.out _ (S6.out.on HW.out)).mono ?_
            rintro e w7 ⟨rfl, b7⟩
            have S7 := Lib.hid (S6.out.step b7)
            clear b7 cA
            have cA := box_cells S7.out.a
            cases h7 : okRs fR inn with
            | false =>
              have HE := Lib.hid (okRs_bad (g := okRx 0 fR (okS 0 48)) HX.out (by rw [HF.out, h7]; rfl))
              clear h7
              go_wp2_with fail
              go_ret
              exact ⟨by rw [HE.out]; rfl, S7.out.bel⟩
            | true =>
            rw [h7, Bool.true_and] at HF
            clear h7
            go_wp2_with fail
            refine (KB.out _ (S7.out.on HW.out)).mono ?_
            rintro e w8 ⟨rfl, b8⟩
            have S8 := Lib.hid (S7.out.step b8)
            clear b8 cA
            cases hl : okAll bd (okS 0 48) with
            | false =>
              have HE := Lib.hid (okRs_bad (g := okRx 0 fR (okS 0 48)) HX.out (by rw [HF.out, hl]))
              clear hl
              go_wp2_with fail
              go_ret
              exact ⟨by rw [HE.out]; rfl, S8.out.bel⟩
            | true =>
            have HE := Lib.hid (all_take_succ (f := okRx 0 fR (okS 0 48)) HX.out HT.out (HF.out.trans hl))
            clear hl
            go_wp2_with fail
            go_roundw
            case rel => exact ⟨j + 1, by omega, by go_num, HE, HU1, Lib.hid S8.out.bel⟩
            case measure => simp [intOf]; omega
          · by_cases gi : 0 < inn.length
            · have hi : decide (0 < inn.length) = true := decide_eq_true gi
              have xi : (inn.length == 0) = false := by rw [beq_eq_false_iff_ne]; omega
              have HE := Lib.hid (okRs_bad (g := okRx 1 fR (okS 1 48)) HX.out (by rw [HF.out, xi]; rfl))
              clear xi
              go_wp2_with fail
              go_ret
              exact ⟨by rw [HE.out]; rfl, S4.out.bel⟩
            have hi : decide (0 < inn.length) = false := decide_eq_false gi
            have xi : (((1 : Int) == 0) || (inn.length == 0)) = true := by rw [Bool.or_eq_true]; exact .inr (by rw [beq_iff_eq]; omega)
            rw [xi, Bool.true_and] at HF
            clear xi
            go_wp2_with fail
            refine (KP.out _ (S4.out.on HW.out)).mono ?_
            rintro e w5 ⟨rfl, b5⟩
            have S5 := Lib.hid (S4.out.step b5)
            clear b5 cA
            have cA := box_cells S5.out.a
            cases h5 : okPs 1 ps with
            | false =>
              have HE := Lib.hid (okRs_bad (g := okRx 1 fR (okS 1 48)) HX.out (by rw [HF.out, h5]; rfl))
              clear h5
              go_wp2_with fail
              go_ret
              exact ⟨by rw [HE.out]; rfl, S5.out.bel⟩
            | true =>
            rw [h5, Bool.true_and] at HF
            clear h5
            go_wp2_with fail
            refine (KV.out _ (S5.out.on HW.out)).mono ?_
            rintro e w6 ⟨rfl, b6⟩
            have S6 := Lib.hid (S5.out.step b6)
            clear b6 cA
            have cA := box_cells S6.out.a
            cases h6 : okAll vr (okV 1) with
            | false =>
              have HE := Lib.hid (okRs_bad (g := okRx 1 fR (okS 1 48)) HX.out (by rw [HF.out, h6]; rfl))
              clear h6
              go_wp2_with fail
              go_ret
              exact ⟨by rw [HE.out]; rfl, S6.out.bel⟩
            | true =>
            rw [h6, Bool.true_and] at HF
            clear h6
            go_wp2_with fail
            refine (KI.out _ (S6.out.on HW.out)).mono ?_
            rintro e w7 ⟨rfl, b7⟩
            have S7 := Lib.hid (S6.out.step b7)
            clear b7 cA
            have cA := box_cells S7.out.a
            cases h7 : okRs fR inn with
            | false =>
              have HE := Lib.hid (okRs_bad (g := okRx 1 fR (okS 1 48)) HX.out (by rw [HF.out, h7]; rfl))
              clear h7
              go_wp2_with fail
              go_ret
              exact ⟨by rw [HE.out]; rfl, S7.out.bel⟩
            | true =>
            rw [h7, Bool.true_and] at HF
            clear h7
            go_wp2_with fail
            refine (KB.out _ (S7.out.on HW.out)).mono ?_
            rintro e w8 ⟨rfl, b8⟩
            have S8 := Lib.hid (S7.out.step b8)
            clear b8 cA
            cases hl : okAll bd (okS 1 48) with
            | false =>
              have HE := Lib.hid (okRs_bad (g := okRx 1 fR (okS 1 48)) HX.out (by rw [HF.out, hl]))
              clear hl
              go_wp2_with fail
              go_ret
              exact ⟨by rw [HE.out]; rfl, S8.out.bel⟩
            | true =>
            have HE := Lib.hid (all_take_succ (f := okRx 1 fR (okS 1 48)) HX.out HT.out (HF.out.trans hl))
            clear hl
            go_wp2_with fail
            go_roundw
            case rel => exact ⟨j + 1, by omega, by go_num, HE, HU1, Lib.hid S8.out.bel⟩
            case measure => simp [intOf]; omega
    · obtain rfl : k = len := by omega
      have HE := Lib.hid (show okRs (okRx d fR (okS d 48)) l = decide ((k : Int) ≤ 512) by
        unfold okRs okAll
        have h := HT.out
        have hu := HU.out
        rw [show l.take k = l by rw [← HL.out, List.take_length]] at h
        rw [← HL.out] at hu
        rw [h, uq_end hu, Bool.and_true, Bool.and_true, HL.out, Bool.eq_iff_iff, decide_eq_true_eq, decide_eq_true_eq]
        omega)
      cases hq : decide ((k : Int) ≤ 512) with
      | true =>
        rw [hq] at HE
        go_wp2_with fail
        go_ret
        exact ⟨by rw [HE.out]; rfl, HB.out⟩
      | false =>
        rw [hq] at HE
        go_wp2_with fail
        go_ret
        exact ⟨by rw [HE.out]; rfl, HB.out⟩
end Go.Proofs.YtciijpahjjoppaaGreat
end
section
namespace Go.Proofs.YtciijpahjjoppaaGreat
open Go.RowKit Go.Deep Go.Maps

noncomputable def okG (d : Int) : List D → Bool := okGx d (okRt d 48) (okS d 48)
noncomputable def chkG (d : Int) (x : List D) : Bool := knows d && okG d x
theorem knows_or {d : Int} (h : knows d = true) : d = 0 ∨ d = 1 := by
  unfold knows at h
  simpa using h
theorem program_any (w0 : World) (d : Int) (hd : d = 0 ∨ d = 1) (x : List D) (vs : List Value) (hx : ShG x) (hv : AllAt w0 vs x) (w : World) (hW : Below w0.heap.size w0 w) :
    Calls Tryz.prog 28 #[.agg #[.int .i64 d, .int .i64 0], .agg ⟨vs⟩] w fun e w' => e = .returned (.bool (okG d x)) ∧ Below w.heap.size w w' := by
  obtain ⟨nm, be, mi, af, rc, vr, rt, bd, en, bea, bec, mia, mic, afa, afc, rca, rcc, vra, vrc, rta, rtc, bda, bdc, ena, enc, rfl, rfl, i0, a_be, a_mi, a_af, a_rc, a_vr, a_rt, a_bd, a_en, t_be, t_mi, t_af, t_rc, t_vr, t_rt, t_bd, t_en⟩ := hv.openG hx
  exact program_step w0 d 0 hd nm be mi af rc vr rt bd en bea bec mia mic afa afc rca rcc vra vrc rta rtc bda bdc ena enc i0 a_be t_be a_mi t_mi a_af t_af a_rc t_rc a_vr t_vr a_rt t_rt a_bd t_bd a_en t_en (okRt d 48) (okS d 48) (fun y hy us hu U hU => routine_any w0 d hd 48 0 rfl y us (t_rt y hy) hu U hU) (fun y hy us hu U hU => stmt_any w0 d hd 48 0 rfl y us (t_bd y hy) hu U hU) w hW
set_option maxRecDepth 100000 in
set_option maxHeartbeats 4000000 in
theorem checkProg_any (w0 : World) (d : Int) (x : List D) (vs : List Value) (hx : ShG x) (hv : AllAt w0 vs x) (w : World) (hW : Below w0.heap.size w0 w) :
    Calls Tryz.prog 12 #[.int .i64 d, .agg ⟨vs⟩] w fun e w' => e = .returned (.int .i64 (codeOf (chkG d x))) ∧ Below w.heap.size w w' := by
  have HE := Lib.hid (fun (h : knows d = true) (W : World) (hW : Below w0.heap.size w0 W) => program_any w0 d (knows_or h) x vs hx hv W hW)
  obtain ⟨nm, be, mi, af, rc, vr, rt, bd, en, bea, bec, mia, mic, afa, afc, rca, rcc, vra, vrc, rta, rtc, bda, bdc, ena, enc, hxe, rfl, _⟩ := hv.openG hx
  have HW := Lib.hid hW
  have HX := Lib.hid hxe
  clear hW hv hx hxe
  have R0 := Lib.hid (((Below.refl w.heap.size w).alloc (Nat.le_refl _) (.cells #[.string nm, .slice bea be.length bec, .slice mia mi.length mic, .slice afa af.length afc, .slice rca rc.length rcc, .slice vra vr.length vrc, .slice rta rt.length rtc, .slice bda bd.length bdc, .slice ena en.length enc] 35)).alloc (by simp) (.cells #[.int .i64 d, .int .i64 0] 51))
  have KQ := Lib.hid (box_first w (.cells #[.string nm, .slice bea be.length bec, .slice mia mi.length mic, .slice afa af.length afc, .slice rca rc.length rcc, .slice vra vr.length vrc, .slice rta rt.length rtc, .slice bda bd.length bdc, .slice ena en.length enc] 35) (.cells #[.int .i64 d, .int .i64 0] 51))
  have KP := Lib.hid (box_second w (.cells #[.string nm, .slice bea be.length bec, .slice mia mi.length mic, .slice afa af.length afc, .slice rca rc.length rcc, .slice vra vr.length vrc, .slice rta rt.length rtc, .slice bda bd.length bdc, .slice ena en.length enc] 35) (.cells #[.int .i64 d, .int .i64 0] 51))
  go_enter Tryz.func12, Tryz.ntmps12
  go_wp2_with fail
  refine (knows_any d 0 _).mono ?_
  rintro e w1 ⟨rfl, hw1⟩
  have b1 := (Below.refl _ ((w.alloc (.cells #[.string nm, .slice bea be.length bec, .slice mia mi.length mic, .slice afa af.length afc, .slice rca rc.length rcc, .slice vra vr.length vrc, .slice rta rt.length rtc, .slice bda bd.length bdc, .slice ena en.length enc] 35)).alloc (.cells #[.int .i64 d, .int .i64 0] 51))).alloc (Nat.le_refl _) (.cells #[.int .i64 d, .int .i64 0] 51)
  rw [← hw1] at b1
  clear hw1
  have R1 := Lib.hid (R0.out.trans (b1.mono R0.out.size))
  have cP1 := box_cells ((b1.block _ (heap_lt KP.out)).trans KP.out)
  have cQ1 := box_cells ((b1.block _ (heap_lt KQ.out)).trans KQ.out)
  clear b1
  cases hkn : knows d with
  | false =>
    have HO := Lib.hid (show chkG d x = false by unfold chkG; rw [hkn]; rfl)
    go_wp2_with fail
    refine (told_no _).mono ?_
    rintro e w2 ⟨rfl, rfl⟩
    go_wp2_with fail
    go_ret
    exact ⟨by rw [HO.out]; rfl, R1.out⟩
  | true =>
    have HK := Lib.hid hkn
    have HO := Lib.hid (show chkG d x = okG d x by unfold chkG; rw [hkn]; rfl)
    clear hkn
    go_wp2_with fail
    refine (HE.out HK.out _ (HW.out.trans (R1.out.mono HW.out.size))).mono ?_
    rintro e w2 ⟨rfl, b2⟩
    have R2 := Lib.hid (R1.out.trans (b2.mono R1.out.size))
    clear b2 cP1 cQ1
    cases hr : okG d x with
    | false =>
      go_wp2_with fail
      refine (told_no _).mono ?_
      rintro e w2 ⟨rfl, rfl⟩
      go_wp2_with fail
      go_ret
      exact ⟨by rw [HO.out, hr]; rfl, R2.out⟩
    | true =>
      go_wp2_with fail
      refine (told_yes _).mono ?_
      rintro e w2 ⟨rfl, rfl⟩
      go_wp2_with fail
      go_ret
      exact ⟨by rw [HO.out, hr]; rfl, R2.out⟩
end Go.Proofs.YtciijpahjjoppaaGreat
end
section
namespace Go.Proofs.YtciijpahjjoppaaGreat
open Go.RowKit Go.Deep Go.Maps Go.Sort

set_option maxRecDepth 100000 in
set_option maxHeartbeats 4000000 in
theorem refRoutines_deep (w0 : World) (d : Int) (dp : Nat) (hdp : 48 < dp) (a : Option Addr) (len cap : Nat) (l : List (List D)) (hA : At w0 (.slice a len cap) (.row l)) (hs : ∀ x ∈ l, ShR x) (W : World) (hW : Below w0.heap.size w0 W) :
    Calls Tryz.prog 33 #[.int .i64 d, .slice a len cap, .int .i64 dp] W fun e W' => e = .returned (.bool (okRs (okRt d 0) l)) ∧ Below W.heap.size W W' := by
  have HA := Lib.hid hA
  have HS := Lib.hid hs
  have HW := Lib.hid hW
  have hle := hA.len_le
  have HL := Lib.hid hA.len_eq.1
  have hdp2 : decide ((48 : Int) < (dp : Int)) = true := by simp; omega
  clear hA hs hW hdp
  go_enter Tryz.func33, Tryz.ntmps33
  go_wp2_with fail
  go_loopw [7] (fun i wr => i = .int .i64 0 ∧ wr = W) (fun i _ => 0)
  case atStart => exact ⟨rfl, rfl⟩
  case round =>
    obtain ⟨rfl, rfl⟩ := hrel
    by_cases hlt : 0 < len
    · obtain ⟨b, o, vs, ds, rfl, hbl, hx, hv, hc⟩ := HA.out.elem hlt
      obtain ⟨m0, m1, nm, rs, ps, vr, inn, bd, en, m0a, m0c, m1a, m1c, psa, psc, vra, vrc, ina, inc, bda, bdc, ena, enc, hds, hvs, _⟩ := hv.openR (HS.out _ (List.mem_of_getElem? hx))
      subst hvs
      have hdl : ds.length = 9 := by rw [hds]; rfl
      rw [hdl] at hc
      have hbw : b < wr.heap.size := Nat.lt_of_lt_of_le hbl HW.out.size
      have C0 := Lib.hid (show ∀ j v, ([.slice m0a m0.length m0c, .slice m1a m1.length m1c, .string nm, .int .i64 rs, .slice psa ps.length psc, .slice vra vr.length vrc, .slice ina inn.length inc, .slice bda bd.length bdc, .slice ena en.length enc] : List Value)[j]? = some v → wr.cell? ⟨b, o + j, none⟩ = some v from fun j v hv => (HW.out.cell (p := ⟨b, o + j, none⟩) hbl).trans (by have := hc j v hv; simpa using this))
      have hvl := Lib.hid (show ([.slice m0a m0.length m0c, .slice m1a m1.length m1c, .string nm, .int .i64 rs, .slice psa ps.length psc, .slice vra vr.length vrc, .slice ina inn.length inc, .slice bda bd.length bdc, .slice ena en.length enc] : List Value).length = 9 from rfl)
      have hvo := Lib.hid hv.one
      have HE := Lib.hid (okRs_bad (g := okRt d 0) hx rfl)
      have B1 := Lib.hid ((Below.refl wr.heap.size wr).alloc (Nat.le_refl _) (.cells ⟨[.slice m0a m0.length m0c, .slice m1a m1.length m1c, .string nm, .int .i64 rs, .slice psa ps.length psc, .slice vra vr.length vrc, .slice ina inn.length inc, .slice bda bd.length bdc, .slice ena en.length enc]⟩ 80))
      clear hx hds hdl hc hv
      go_wp2_with (first
        | ((with_reducible refine wp_loadAgg (o := ⟨some 19, _, _, _, _, _⟩) rfl (.tmp 18) 80 rfl 9 Tryz.isAgg80 Tryz.sizeOf80 b o ?_ [.slice m0a m0.length m0c, .slice m1a m1.length m1c, .string nm, .int .i64 rs, .slice psa ps.length psc, .slice vra vr.length vrc, .slice ina inn.length inc, .slice bda bd.length bdc, .slice ena en.length enc] hvl.out C0.out ?_); rfl)
        | ((with_reducible refine wp_storeNew (o := ⟨none, .store 80 (.tmp 8) (.tmp 19), _, _, _, _⟩) rfl (.tmp 8) (.tmp 19) 80 rfl 9 Tryz.sizeOf80 _ ?_ ?_ [.slice m0a m0.length m0c, .slice m1a m1.length m1c, .string nm, .int .i64 rs, .slice psa ps.length psc, .slice vra vr.length vrc, .slice ina inn.length inc, .slice bda bd.length bdc, .slice ena en.length enc] ?_ hvl.out hvo.out ?_); rfl; rfl; rfl))
      go_ret
      exact ⟨by rw [HE.out]; rfl, B1.out⟩
    · obtain rfl : len = 0 := by omega
      have HE := Lib.hid (show okRs (okRt d 0) l = true by
        have : l = [] := List.eq_nil_of_length_eq_zero HL.out
        subst this
        rfl)
      go_wp2_with fail
      go_ret
      exact ⟨by rw [HE.out]; rfl, Below.refl _ _⟩
theorem refRoutines_any (w0 : World) (d : Int) (hd : d = 0 ∨ d = 1) : ∀ (k dp : Nat), dp + k = 49 → ∀ (a : Option Addr) (len cap : Nat) (l : List (List D)), At w0 (.slice a len cap) (.row l) → (∀ x ∈ l, ShR x) → mRows l ≤ 2000000 → ∀ W, Below w0.heap.size w0 W →
    Calls Tryz.prog 33 #[.int .i64 d, .slice a len cap, .int .i64 dp] W fun e W' => e = .returned (.bool (okRs (okRt d k) l)) ∧ Below W.heap.size W W'
  | 0, dp, hk, a, len, cap, l, hA, hs, _, W, hW => refRoutines_deep w0 d dp (by omega) a len cap l hA hs W hW
  | k + 1, dp, hk, a, len, cap, l, hA, hs, hb, W, hW =>
    refRoutines_step w0 d hd dp (by omega) (okRt d k) a len cap l hA hs hb (fun x m0 m1 nm rs ps vr inn bd en ina inc hx hds hin tin U hU =>
      refRoutines_any w0 d hd k (dp + 1) (by omega) ina inn.length inc inn hin tin (by have := mRows_mem hx; rw [hds] at this; simp only [mRow, mD] at this; omega) U hU) W hW
theorem okGx_ref (d : Int) (fR fS : List D → Bool) (nm : ByteArray) (be mi af rc vr rt bd en : List (List D)) : okGx d fR fS [.str nm, .row be, .row mi, .row af, .row rc, .row vr, .row rt, .row bd, .row en] = (okName d nm && (okNs be && (okNs mi && (okNs af && (okNs en && (decide (rc.length ≤ 512) && (rc.all (okC d) && (okAll vr (okV d) && (okRs fR rt && okAll bd fS))))))))) := by
  show (okName d nm && ((okNs be && (okNs mi && (okNs af && okNs en))) && (okAll rc (okC d) && (okAll vr (okV d) && (okRs fR rt && okAll bd fS))))) = _
  unfold okAll
  simp only [Bool.and_assoc]
theorem okC_ref (d : Int) (m0 m1 : List (List D)) (nm : ByteArray) (fs en : List (List D)) : okC d [.row m0, .row m1, .str nm, .row fs, .row en] = ((okNs m0 && okNs m1) && (okNs en && (okName d nm && (decide (0 < fs.length) && (decide (fs.length ≤ 512) && fs.all (okF d)))))) := by
  show ((okNs m0 && okNs m1) && (okName d nm && (decide (0 < fs.length) && (okAll fs (okF d) && okNs en)))) = _
  unfold okAll
  cases okNs en <;> simp
theorem okF_ref (d : Int) (m0 m1 : List (List D)) (nm : ByteArray) (kd : Int) : okF d [.row m0, .row m1, .str nm, .int kd] = ((okNs m0 && okNs m1) && (okName d nm && (!decide (kd < 1) && !decide (3 < kd)))) := by
  show ((okNs m0 && okNs m1) && (okName d nm && wthn kd 1 3)) = _
  have : wthn kd 1 3 = (!decide (kd < 1) && !decide (3 < kd)) := by
    unfold wthn
    rw [Bool.eq_iff_iff]
    simp
  rw [this]
theorem all_bad {f : List D → Bool} {l : List (List D)} {k : Nat} {x : List D} (hx : l[k]? = some x) (h : f x = false) : l.all f = false := by
  rw [List.all_eq_false]
  exact ⟨x, List.mem_of_getElem? hx, by simp [h]⟩
theorem Bx1.toBxb {w : World} {p : Obj} {W : World} (h : Bx1 w p W) (q : Obj) : Bxb w W.heap.size q (W.alloc q) := ⟨heap_new _ _, h.bel.trans (((Below.refl W.heap.size W).alloc (Nat.le_refl _) _).mono h.bel.size)⟩
theorem Bx1.al {w : World} {p : Obj} {W : World} (h : Bx1 w p W) (q : Obj) : Bx1 w p (W.alloc q) := h.step ((Below.refl W.heap.size W).alloc (Nat.le_refl _) _)
theorem Bxb.al {w : World} {r : Nat} {p : Obj} {W : World} (h : Bxb w r p W) (q : Obj) : Bxb w r p (W.alloc q) := h.step ((Below.refl W.heap.size W).alloc (Nat.le_refl _) _)
set_option maxRecDepth 100000 in
set_option maxHeartbeats 16000000 in
theorem refCheck_step (w0 : World) (d : Int) (hd : d = 0 ∨ d = 1) (nm : ByteArray) (be mi af rc vr rt bd en : List (List D)) (bea : Option Addr) (bec : Nat) (mia : Option Addr) (mic : Nat) (afa : Option Addr) (afc : Nat) (rca : Option Addr) (rcc : Nat) (vra : Option Addr) (vrc : Nat) (rta : Option Addr) (rtc : Nat) (bda : Option Addr) (bdc : Nat) (ena : Option Addr) (enc : Nat) (i0 : nm.size ≤ maxLen) (a_be : At w0 (.slice bea be.length bec) (.row be)) (t_be : ∀ y ∈ be, ShT y) (a_mi : At w0 (.slice mia mi.length mic) (.row mi)) (t_mi : ∀ y ∈ mi, ShT y) (a_af : At w0 (.slice afa af.length afc) (.row af)) (t_af : ∀ y ∈ af, ShT y) (a_rc : At w0 (.slice rca rc.length rcc) (.row rc)) (t_rc : ∀ y ∈ rc, ShC y) (a_vr : At w0 (.slice vra vr.length vrc) (.row vr)) (t_vr : ∀ y ∈ vr, ShV y) (a_en : At w0 (.slice ena en.length enc) (.row en)) (t_en : ∀ y ∈ en, ShT y)
    (fR fS : List D → Bool) (hR : Says w0 33 #[.int .i64 d, .slice rta rt.length rtc, .int .i64 1] (.bool (okRs fR rt))) (hS : Says w0 34 #[.int .i64 d, .slice bda bd.length bdc, .int .i64 1] (.bool (okAll bd fS))) (w : World) (hW : Below w0.heap.size w0 w) :
    Calls Tryz.prog 13 #[.int .i64 d, .agg #[.string nm, .slice bea be.length bec, .slice mia mi.length mic, .slice afa af.length afc, .slice rca rc.length rcc, .slice vra vr.length vrc, .slice rta rt.length rtc, .slice bda bd.length bdc, .slice ena en.length enc]] w fun e w' => e = .returned (.bool (okGx d fR fS [.str nm, .row be, .row mi, .row af, .row rc, .row vr, .row rt, .row bd, .row en])) ∧ Below w.heap.size w w' := by
  have K_be := Lib.hid (fun (W : World) (hW : Below w0.heap.size w0 W) => refNotes_any w0 bea be.length bec be a_be t_be W hW)
  have K_mi := Lib.hid (fun (W : World) (hW : Below w0.heap.size w0 W) => refNotes_any w0 mia mi.length mic mi a_mi t_mi W hW)
  have K_af := Lib.hid (fun (W : World) (hW : Below w0.heap.size w0 W) => refNotes_any w0 afa af.length afc af a_af t_af W hW)
  have K_en := Lib.hid (fun (W : World) (hW : Below w0.heap.size w0 W) => refNotes_any w0 ena en.length enc en a_en t_en W hW)
  have K_vr := Lib.hid (fun (W : World) (hW : Below w0.heap.size w0 W) => refVars_any w0 d vra vr.length vrc vr a_vr t_vr W hW)
  have K_rt := Lib.hid hR
  have K_bd := Lib.hid hS
  have K_nm := Lib.hid (fun (W : World) (_ : Below w0.heap.size w0 W) => refName_any d nm W i0)
  have HA := Lib.hid a_rc
  have HS := Lib.hid t_rc
  have HW := Lib.hid hW
  have HD := Lib.hid hd
  have hle := a_rc.len_le
  have hd2 : ((d != 0) && (d != 1)) = false := by rcases hd with rfl | rfl <;> rfl
  have HO := Lib.hid (okGx_ref d fR fS nm be mi af rc vr rt bd en)
  have S0 := Lib.hid (Bx1.start w (.cells #[.string nm, .slice bea be.length bec, .slice mia mi.length mic, .slice afa af.length afc, .slice rca rc.length rcc, .slice vra vr.length vrc, .slice rta rt.length rtc, .slice bda bd.length bdc, .slice ena en.length enc] 35))
  clear hR hS hW i0 a_be t_be a_mi t_mi a_af t_af a_rc t_rc a_vr t_vr a_en t_en
  generalize okGx d fR fS [.str nm, .row be, .row mi, .row af, .row rc, .row vr, .row rt, .row bd, .row en] = R at *
  have cS := box_cells S0.out.a
  rcases HD.out with rfl | rfl
  · go_enter Tryz.func13, Tryz.ntmps13
    go_wp2_with fail
    refine (K_nm.out _ (S0.out.on HW.out)).mono ?_
    rintro e w1 ⟨rfl, b1⟩
    have S1 := Lib.hid (S0.out.step b1)
    clear b1 cS
    have cS := box_cells S1.out.a
    cases h1 : okName 0 nm with
    | false =>
      rw [h1] at HO
      clear h1
      go_wp2_with fail
      go_ret
      exact ⟨by rw [HO.out]; rfl, S1.out.bel⟩
    | true =>
    rw [h1, Bool.true_and] at HO
    clear h1
    go_wp2_with fail
    refine (K_be.out _ (S1.out.on HW.out)).mono ?_
    rintro e w2 ⟨rfl, b2⟩
    have S2 := Lib.hid (S1.out.step b2)
    clear b2 cS
    have cS := box_cells S2.out.a
    cases h2 : okNs be with
    | false =>
      rw [h2] at HO
      clear h2
      go_wp2_with fail
      go_ret
      exact ⟨by rw [HO.out]; rfl, S2.out.bel⟩
    | true =>
    rw [h2, Bool.true_and] at HO
    clear h2
    go_wp2_with fail
    refine (K_mi.out _ (S2.out.on HW.out)).mono ?_
    rintro e w3 ⟨rfl, b3⟩
    have S3 := Lib.hid (S2.out.step b3)
    clear b3 cS
    have cS := box_cells S3.out.a
    cases h3 : okNs mi with
    | false =>
      rw [h3] at HO
      clear h3
      go_wp2_with fail
      go_ret
      exact ⟨by rw [HO.out]; rfl, S3.out.bel⟩
    | true =>
    rw [h3, Bool.true_and] at HO
    clear h3
    go_wp2_with fail
    refine (K_af.out _ (S3.out.on HW.out)).mono ?_
    rintro e w4 ⟨rfl, b4⟩
    have S4 := Lib.hid (S3.out.step b4)
    clear b4 cS
    have cS := box_cells S4.out.a
    cases h4 : okNs af with
    | false =>
      rw [h4] at HO
      clear h4
      go_wp2_with fail
      go_ret
      exact ⟨by rw [HO.out]; rfl, S4.out.bel⟩
    | true =>
    rw [h4, Bool.true_and] at HO
    clear h4
    go_wp2_with fail
    refine (K_en.out _ (S4.out.on HW.out)).mono ?_
    rintro e w5 ⟨rfl, b5⟩
    have S5 := Lib.hid (S4.out.step b5)
    clear b5 cS
    have cS := box_cells S5.out.a
    cases h5 : okNs en with
    | false =>
      rw [h5] at HO
      clear h5
      go_wp2_with fail
      go_ret
      exact ⟨by rw [HO.out]; rfl, S5.out.bel⟩
    | true =>
    rw [h5, Bool.true_and] at HO
    clear h5
    by_cases hbig : 512 < rc.length
    · have hb1 : decide ((512 : Int) < (rc.length : Int)) = true := by simp; omega
      have hb2 : decide (512 < rc.length) = true := decide_eq_true hbig
      rw [decide_eq_false (show ¬ rc.length ≤ 512 by omega)] at HO
      clear hbig
      go_wp2_with fail
      go_ret
      exact ⟨by rw [HO.out]; rfl, S5.out.bel⟩
    have hb1 : decide ((512 : Int) < (rc.length : Int)) = false := by simp; omega
    have hb2 : decide (512 < rc.length) = false := decide_eq_false hbig
    rw [decide_eq_true (show rc.length ≤ 512 by omega), Bool.true_and] at HO
    clear hbig
    go_wp2_with fail
    go_loopw [5] (fun i wr => ∃ k : Nat, k ≤ rc.length ∧ i = .int .i64 k ∧ Hid ((rc.take k).all (okC 0) = true) ∧ Hid (Bx1 w (.cells #[.string nm, .slice bea be.length bec, .slice mia mi.length mic, .slice afa af.length afc, .slice rca rc.length rcc, .slice vra vr.length vrc, .slice rta rt.length rtc, .slice bda bd.length bdc, .slice ena en.length enc] 35) wr)) (fun i _ => rc.length - (intOf i).toNat)
    case atStart => exact ⟨0, Nat.zero_le _, rfl, Lib.hid rfl, S5⟩
    case round =>
      obtain ⟨k, hk, rfl, HT, SW⟩ := hrel
      clear cS
      have cS := box_cells SW.out.a
      by_cases hlt : k < rc.length
      · obtain ⟨b, o, vs, ds, rfl, hbl, hx, hv, hc⟩ := HA.out.elem hlt
        obtain ⟨m0, m1, rnm, fs, re, m0a, m0c, m1a, m1c, fsa, fsc, rea, rec, hds, hvs, a_m0, a_m1, i_nm, a_fs, a_re, t_m0, t_m1, t_fs, t_re⟩ := hv.openC (HS.out _ (List.mem_of_getElem? hx))
        subst hvs
        have hdl : ds.length = 5 := by rw [hds]; rfl
        rw [hdl] at hc
        have B0 := SW.out.on HW.out
        have hbw : b < wr.heap.size := Nat.lt_of_lt_of_le hbl B0.size
        have C0 := Lib.hid (show ∀ j v, ([.slice m0a m0.length m0c, .slice m1a m1.length m1c, .string rnm, .slice fsa fs.length fsc, .slice rea re.length rec] : List Value)[j]? = some v → wr.cell? ⟨b, o + k * 5 + j, none⟩ = some v from fun j v hv => (B0.cell (p := ⟨b, o + k * 5 + j, none⟩) hbl).trans (hc j v hv))
        have hvl := Lib.hid (show ([.slice m0a m0.length m0c, .slice m1a m1.length m1c, .string rnm, .slice fsa fs.length fsc, .slice rea re.length rec] : List Value).length = 5 from rfl)
        have hvo := Lib.hid hv.one
        have KM := Lib.hid (fun (W : World) (hW : Below w0.heap.size w0 W) => refMarks_any w0 m0 m1 m0a m0c m1a m1c a_m0 a_m1 t_m0 t_m1 W hW)
        have KE := Lib.hid (fun (W : World) (hW : Below w0.heap.size w0 W) => refNotes_any w0 rea re.length rec re a_re t_re W hW)
        have KN := Lib.hid (fun (W : World) (_ : Below w0.heap.size w0 W) => refName_any 0 rnm W i_nm)
        have HAF := Lib.hid a_fs
        have HSF := Lib.hid t_fs
        have hlf := a_fs.len_le
        have HX := Lib.hid hx
        have HF := Lib.hid (show okC 0 ds = ((okNs m0 && okNs m1) && (okNs re && (okName 0 rnm && (decide (0 < fs.length) && (decide (fs.length ≤ 512) && fs.all (okF 0)))))) from by rw [hds]; exact okC_ref 0 m0 m1 rnm fs re)
        have S6 := Lib.hid (SW.out.al (.cells ⟨[.slice m0a m0.length m0c, .slice m1a m1.length m1c, .string rnm, .slice fsa fs.length fsc, .slice rea re.length rec]⟩ 62))
        have T6 := Lib.hid (SW.out.toBxb (.cells ⟨[.slice m0a m0.length m0c, .slice m1a m1.length m1c, .string rnm, .slice fsa fs.length fsc, .slice rea re.length rec]⟩ 62))
        clear cS
        have cS := box_cells SW.out.a
        have cT := box_cells T6.out.a
        clear hx hds hdl hc hv B0 a_m0 a_m1 a_fs a_re t_m0 t_m1 t_fs t_re i_nm
        obtain ⟨wp, rfl⟩ : ∃ wp, wp = wr := ⟨_, rfl⟩
        go_wp2_with (first
          | ((with_reducible refine wp_loadAgg (o := ⟨some 63, _, _, _, _, _⟩) rfl (.tmp 62) 62 rfl 5 Tryz.isAgg62 Tryz.sizeOf62 b (o + k * 5) ?_ [.slice m0a m0.length m0c, .slice m1a m1.length m1c, .string rnm, .slice fsa fs.length fsc, .slice rea re.length rec] hvl.out C0.out ?_); rfl)
          | ((with_reducible refine wp_storeNew (o := ⟨none, .store 62 (.tmp 6) (.tmp 63), _, _, _, _⟩) rfl (.tmp 6) (.tmp 63) 62 rfl 5 Tryz.sizeOf62 _ ?_ ?_ [.slice m0a m0.length m0c, .slice m1a m1.length m1c, .string rnm, .slice fsa fs.length fsc, .slice rea re.length rec] ?_ hvl.out hvo.out ?_); rfl; rfl; rfl))
        refine (KM.out _ (S6.out.on HW.out)).mono ?_
        rintro e w7 ⟨rfl, b7⟩
        have S7 := Lib.hid (S6.out.step b7)
        have T7 := Lib.hid (T6.out.step b7)
        clear b7 cS
        clear cT
        have cS := box_cells S7.out.a
        have cT := box_cells T7.out.a
        cases h7 : (okNs m0 && okNs m1) with
        | false =>
          rw [h7] at HF
          clear h7
          rw [all_bad (f := okC 0) HX.out (HF.out.trans rfl)] at HO
          go_wp2_with fail
          go_ret
          exact ⟨by rw [HO.out]; rfl, S7.out.bel⟩
        | true =>
        rw [h7, Bool.true_and] at HF
        clear h7
        go_wp2_with fail
        refine (KE.out _ (S7.out.on HW.out)).mono ?_
        rintro e w8 ⟨rfl, b8⟩
        have S8 := Lib.hid (S7.out.step b8)
        have T8 := Lib.hid (T7.out.step b8)
        clear b8 cS
        clear cT
        have cS := box_cells S8.out.a
        have cT := box_cells T8.out.a
        cases h8 : okNs re with
        | false =>
          rw [h8] at HF
          clear h8
          rw [all_bad (f := okC 0) HX.out (HF.out.trans rfl)] at HO
          go_wp2_with fail
          go_ret
          exact ⟨by rw [HO.out]; rfl, S8.out.bel⟩
        | true =>
        rw [h8, Bool.true_and] at HF
        clear h8
        go_wp2_with fail
        refine (KN.out _ (S8.out.on HW.out)).mono ?_
        rintro e w9 ⟨rfl, b9⟩
        have S9 := Lib.hid (S8.out.step b9)
        have T9 := Lib.hid (T8.out.step b9)
        clear b9 cS
        clear cT
        have cS := box_cells S9.out.a
        have cT := box_cells T9.out.a
        cases h9 : okName 0 rnm with
        | false =>
          rw [h9] at HF
          clear h9
          rw [all_bad (f := okC 0) HX.out (HF.out.trans rfl)] at HO
          go_wp2_with fail
          go_ret
          exact ⟨by rw [HO.out]; rfl, S9.out.bel⟩
        | true =>
        rw [h9, Bool.true_and] at HF
        clear h9
        by_cases hz : fs.length = 0
        · have g1 : ((fs.length : Int) == 0) = true := by rw [beq_iff_eq]; omega
          have g2 : (fs.length == 0) = true := by rw [beq_iff_eq]; omega
          rw [decide_eq_false (show ¬ 0 < fs.length by omega)] at HF
          clear hz
          rw [all_bad (f := okC 0) HX.out (HF.out.trans rfl)] at HO
          go_wp2_with fail
          go_ret
          exact ⟨by rw [HO.out]; rfl, S9.out.bel⟩
        have g1 : ((fs.length : Int) == 0) = false := by rw [beq_eq_false_iff_ne]; omega
        have g2 : (fs.length == 0) = false := by rw [beq_eq_false_iff_ne]; omega
        rw [decide_eq_true (show 0 < fs.length by omega), Bool.true_and] at HF
        clear hz
        by_cases hbg : 512 < fs.length
        · have hg1 : decide ((512 : Int) < (fs.length : Int)) = true := by simp; omega
          have hg2 : decide (512 < fs.length) = true := decide_eq_true hbg
          rw [decide_eq_false (show ¬ fs.length ≤ 512 by omega)] at HF
          clear hbg
          rw [all_bad (f := okC 0) HX.out (HF.out.trans rfl)] at HO
          go_wp2_with fail
          go_ret
          exact ⟨by rw [HO.out]; rfl, S9.out.bel⟩
        have hg1 : decide ((512 : Int) < (fs.length : Int)) = false := by simp; omega
        have hg2 : decide (512 < fs.length) = false := decide_eq_false hbg
        rw [decide_eq_true (show fs.length ≤ 512 by omega), Bool.true_and] at HF
        clear hbg
        go_wp2_with fail
        go_loopw [7] (fun i wr => ∃ j : Nat, j ≤ fs.length ∧ i = .int .i64 j ∧ Hid ((fs.take j).all (okF 0) = true) ∧ Hid (Bx1 w (.cells #[.string nm, .slice bea be.length bec, .slice mia mi.length mic, .slice afa af.length afc, .slice (some ⟨b, o, none⟩) rc.length rcc, .slice vra vr.length vrc, .slice rta rt.length rtc, .slice bda bd.length bdc, .slice ena en.length enc] 35) wr) ∧ Hid (Bxb w wp.heap.size (.cells ⟨[.slice m0a m0.length m0c, .slice m1a m1.length m1c, .string rnm, .slice fsa fs.length fsc, .slice rea re.length rec]⟩ 62) wr)) (fun i _ => fs.length - (intOf i).toNat)
        case atStart => exact ⟨0, Nat.zero_le _, rfl, Lib.hid rfl, S9, T9⟩
        case round =>
          obtain ⟨j, hj, rfl, HTF, SV, TV⟩ := hrel
          clear cS cT
          have cS := box_cells SV.out.a
          have cT := box_cells TV.out.a
          by_cases hjt : j < fs.length
          · obtain ⟨b2, o2, us, es, rfl, hbl2, hy, hu, hc2⟩ := HAF.out.elem hjt
            obtain ⟨f0, f1, fnm, fkd, f0a, f0c, f1a, f1c, hes, hus, a_f0, a_f1, i_fn, _, t_f0, t_f1⟩ := hu.openF (HSF.out _ (List.mem_of_getElem? hy))
            subst hus
            have hel : es.length = 4 := by rw [hes]; rfl
            rw [hel] at hc2
            have B2 := SV.out.on HW.out
            have hbw2 : b2 < wr.heap.size := Nat.lt_of_lt_of_le hbl2 B2.size
            have C2 := Lib.hid (show ∀ i v, ([.slice f0a f0.length f0c, .slice f1a f1.length f1c, .string fnm, .int .i64 fkd] : List Value)[i]? = some v → wr.cell? ⟨b2, o2 + j * 4 + i, none⟩ = some v from fun i v hv => (B2.cell (p := ⟨b2, o2 + j * 4 + i, none⟩) hbl2).trans (hc2 i v hv))
            have hul := Lib.hid (show ([.slice f0a f0.length f0c, .slice f1a f1.length f1c, .string fnm, .int .i64 fkd] : List Value).length = 4 from rfl)
            have huo := Lib.hid hu.one
            have KF := Lib.hid (fun (W : World) (hW : Below w0.heap.size w0 W) => refMarks_any w0 f0 f1 f0a f0c f1a f1c a_f0 a_f1 t_f0 t_f1 W hW)
            have KG := Lib.hid (fun (W : World) (_ : Below w0.heap.size w0 W) => refName_any 0 fnm W i_fn)
            have HY := Lib.hid hy
            have HG := Lib.hid (show okF 0 es = ((okNs f0 && okNs f1) && (okName 0 fnm && (!decide (fkd < 1) && !decide (3 < fkd)))) from by rw [hes]; exact okF_ref 0 f0 f1 fnm fkd)
            have S10 := Lib.hid (SV.out.al (.cells ⟨[.slice f0a f0.length f0c, .slice f1a f1.length f1c, .string fnm, .int .i64 fkd]⟩ 65))
            have T10 := Lib.hid (TV.out.al (.cells ⟨[.slice f0a f0.length f0c, .slice f1a f1.length f1c, .string fnm, .int .i64 fkd]⟩ 65))
            have U10 := Lib.hid (SV.out.toBxb (.cells ⟨[.slice f0a f0.length f0c, .slice f1a f1.length f1c, .string fnm, .int .i64 fkd]⟩ 65))
            have cU := box_cells U10.out.a
            clear hy hes hel hc2 hu B2 a_f0 a_f1 t_f0 t_f1 i_fn
            go_wp2_with (first
              | ((with_reducible refine wp_loadAgg (o := ⟨some 104, _, _, _, _, _⟩) rfl (.tmp 103) 65 rfl 4 Tryz.isAgg65 Tryz.sizeOf65 b2 (o2 + j * 4) ?_ [.slice f0a f0.length f0c, .slice f1a f1.length f1c, .string fnm, .int .i64 fkd] hul.out C2.out ?_); rfl)
              | ((with_reducible refine wp_storeNew (o := ⟨none, .store 65 (.tmp 8) (.tmp 104), _, _, _, _⟩) rfl (.tmp 8) (.tmp 104) 65 rfl 4 Tryz.sizeOf65 _ ?_ ?_ [.slice f0a f0.length f0c, .slice f1a f1.length f1c, .string fnm, .int .i64 fkd] ?_ hul.out huo.out ?_); rfl; rfl; rfl))
            refine (KF.out _ (S10.out.on HW.out)).mono ?_
            rintro e w11 ⟨rfl, b11⟩
            have S11 := Lib.hid (S10.out.step b11)
            have T11 := Lib.hid (T10.out.step b11)
            have U11 := Lib.hid (U10.out.step b11)
            clear b11 cS
            clear cT
            clear cU
            have cS := box_cells S11.out.a
            have cT := box_cells T11.out.a
            have cU := box_cells U11.out.a
            cases h11 : (okNs f0 && okNs f1) with
            | false =>
              rw [h11] at HG
              clear h11
              rw [all_bad (f := okF 0) HY.out (HG.out.trans rfl)] at HF
              rw [all_bad (f := okC 0) HX.out (HF.out.trans rfl)] at HO
              go_wp2_with fail
              go_ret
              exact ⟨by rw [HO.out]; rfl, S11.out.bel⟩
            | true =>
            rw [h11, Bool.true_and] at HG
            clear h11
            go_wp2_with fail
            refine (KG.out _ (S11.out.on HW.out)).mono ?_
            rintro e w12 ⟨rfl, b12⟩
            have S12 := Lib.hid (S11.out.step b12)
            have T12 := Lib.hid (T11.out.step b12)
            have U12 := Lib.hid (U11.out.step b12)
            clear b12 cS
            clear cT
            clear cU
            have cS := box_cells S12.out.a
            have cT := box_cells T12.out.a
            have cU := box_cells U12.out.a
            cases h12 : okName 0 fnm with
            | false =>
              rw [h12] at HG
              clear h12
              rw [all_bad (f := okF 0) HY.out (HG.out.trans rfl)] at HF
              rw [all_bad (f := okC 0) HX.out (HF.out.trans rfl)] at HO
              go_wp2_with fail
              go_ret
              exact ⟨by rw [HO.out]; rfl, S12.out.bel⟩
            | true =>
            rw [h12, Bool.true_and] at HG
            clear h12
            cases hk1 : decide (fkd < 1) with
            | true =>
              rw [hk1] at HG
              rw [all_bad (f := okF 0) HY.out (HG.out.trans rfl)] at HF
              rw [all_bad (f := okC 0) HX.out (HF.out.trans rfl)] at HO
              go_wp2_with fail
              go_ret
              exact ⟨by rw [HO.out]; rfl, S12.out.bel⟩
            | false =>
            rw [hk1, Bool.not_false, Bool.true_and] at HG
            cases hk3 : decide (3 < fkd) with
            | true =>
              rw [hk3] at HG
              rw [all_bad (f := okF 0) HY.out (HG.out.trans rfl)] at HF
              rw [all_bad (f := okC 0) HX.out (HF.out.trans rfl)] at HO
              go_wp2_with fail
              go_ret
              exact ⟨by rw [HO.out]; rfl, S12.out.bel⟩
            | false =>
            rw [hk3, Bool.not_false] at HG
            have HE := Lib.hid (all_take_succ (f := okF 0) HY.out HTF.out HG.out)
            go_wp2_with fail
            go_roundw
            case rel => exact ⟨j + 1, by omega, by go_num, HE, S12, T12⟩
            case measure => simp [intOf]; omega
          · obtain rfl : j = fs.length := by omega
            have hal := HTF.out
            rw [List.take_length] at hal
            rw [hal] at HF
            clear hal
            have HE := Lib.hid (all_take_succ (f := okC 0) HX.out HT.out HF.out)
            go_wp2_with fail
            go_roundw
            case rel => exact ⟨k + 1, by omega, by go_num, HE, SV⟩
            case measure => simp [intOf]; omega
      · obtain rfl : k = rc.length := by omega
        have hal := HT.out
        rw [List.take_length] at hal
        rw [hal, Bool.true_and] at HO
        clear hal
        have S13 := SW
        go_wp2_with fail
        refine (K_vr.out _ (S13.out.on HW.out)).mono ?_
        rintro e w14 ⟨rfl, b14⟩
        have S14 := Lib.hid (S13.out.step b14)
        clear b14 cS
        have cS := box_cells S14.out.a
        cases h14 : okAll vr (okV 0) with
        | false =>
          rw [h14] at HO
          clear h14
          go_wp2_with fail
          go_ret
          exact ⟨by rw [HO.out]; rfl, S14.out.bel⟩
        | true =>
        rw [h14, Bool.true_and] at HO
        clear h14
        go_wp2_with fail
        refine (K_rt.out _ (S14.out.on HW.out)).mono ?_
        rintro e w15 ⟨rfl, b15⟩
        have S15 := Lib.hid (S14.out.step b15)
        clear b15 cS
        have cS := box_cells S15.out.a
        cases h15 : okRs fR rt with
        | false =>
          rw [h15] at HO
          clear h15
          go_wp2_with fail
          go_ret
          exact ⟨by rw [HO.out]; rfl, S15.out.bel⟩
        | true =>
        rw [h15, Bool.true_and] at HO
        clear h15
        go_wp2_with fail
        refine (K_bd.out _ (S15.out.on HW.out)).mono ?_
        rintro e w16 ⟨rfl, b16⟩
        have S16 := Lib.hid (S15.out.step b16)
        clear b16 cS
        cases hlast : okAll bd fS with
        | false =>
          rw [hlast] at HO
          go_wp2_with fail
          go_ret
          exact ⟨by rw [HO.out]; rfl, S16.out.bel⟩
        | true =>
        rw [hlast] at HO
        go_wp2_with fail
        go_ret
        exact ⟨by rw [HO.out]; rfl, S16.out.bel⟩
  · go_enter Tryz.func13, Tryz.ntmps13
    go_wp2_with fail
    refine (K_nm.out _ (S0.out.on HW.out)).mono ?_
    rintro e w1 ⟨rfl, b1⟩
    have S1 := Lib.hid (S0.out.step b1)
    clear b1 cS
    have cS := box_cells S1.out.a
    cases h1 : okName 1 nm with
    | false =>
      rw [h1] at HO
      clear h1
      go_wp2_with fail
      go_ret
      exact ⟨by rw [HO.out]; rfl, S1.out.bel⟩
    | true =>
    rw [h1, Bool.true_and] at HO
    clear h1
    go_wp2_with fail
    refine (K_be.out _ (S1.out.on HW.out)).mono ?_
    rintro e w2 ⟨rfl, b2⟩
    have S2 := Lib.hid (S1.out.step b2)
    clear b2 cS
    have cS := box_cells S2.out.a
    cases h2 : okNs be with
    | false =>
      rw [h2] at HO
      clear h2
      go_wp2_with fail
      go_ret
      exact ⟨by rw [HO.out]; rfl, S2.out.bel⟩
    | true =>
    rw [h2, Bool.true_and] at HO
    clear h2
    go_wp2_with fail
    refine (K_mi.out _ (S2.out.on HW.out)).mono ?_
    rintro e w3 ⟨rfl, b3⟩
    have S3 := Lib.hid (S2.out.step b3)
    clear b3 cS
    have cS := box_cells S3.out.a
    cases h3 : okNs mi with
    | false =>
      rw [h3] at HO
      clear h3
      go_wp2_with fail
      go_ret
      exact ⟨by rw [HO.out]; rfl, S3.out.bel⟩
    | true =>
    rw [h3, Bool.true_and] at HO
    clear h3
    go_wp2_with fail
    refine (K_af.out _ (S3.out.on HW.out)).mono ?_
    rintro e w4 ⟨rfl, b4⟩
    have S4 := Lib.hid (S3.out.step b4)
    clear b4 cS
    have cS := box_cells S4.out.a
    cases h4 : okNs af with
    | false =>
      rw [h4] at HO
      clear h4
      go_wp2_with fail
      go_ret
      exact ⟨by rw [HO.out]; rfl, S4.out.bel⟩
    | true =>
    rw [h4, Bool.true_and] at HO
    clear h4
    go_wp2_with fail
    refine (K_en.out _ (S4.out.on HW.out)).mono ?_
    rintro e w5 ⟨rfl, b5⟩
    have S5 := Lib.hid (S4.out.step b5)
    clear b5 cS
    have cS := box_cells S5.out.a
    cases h5 : okNs en with
    | false =>
      rw [h5] at HO
      clear h5
      go_wp2_with fail
      go_ret
      exact ⟨by rw [HO.out]; rfl, S5.out.bel⟩
    | true =>
    rw [h5, Bool.true_and] at HO
    clear h5
    by_cases hbig : 512 < rc.length
    · have hb1 : decide ((512 : Int) < (rc.length : Int)) = true := by simp; omega
      have hb2 : decide (512 < rc.length) = true := decide_eq_true hbig
      rw [decide_eq_false (show ¬ rc.length ≤ 512 by omega)] at HO
      clear hbig
      go_wp2_with fail
      go_ret
      exact ⟨by rw [HO.out]; rfl, S5.out.bel⟩
    have hb1 : decide ((512 : Int) < (rc.length : Int)) = false := by simp; omega
    have hb2 : decide (512 < rc.length) = false := decide_eq_false hbig
    rw [decide_eq_true (show rc.length ≤ 512 by omega), Bool.true_and] at HO
    clear hbig
    go_wp2_with fail
    go_loopw [5] (fun i wr => ∃ k : Nat, k ≤ rc.length ∧ i = .int .i64 k ∧ Hid ((rc.take k).all (okC 1) = true) ∧ Hid (Bx1 w (.cells #[.string nm, .slice bea be.length bec, .slice mia mi.length mic, .slice afa af.length afc, .slice rca rc.length rcc, .slice vra vr.length vrc, .slice rta rt.length rtc, .slice bda bd.length bdc, .slice ena en.length enc] 35) wr)) (fun i _ => rc.length - (intOf i).toNat)
    case atStart => exact ⟨0, Nat.zero_le _, rfl, Lib.hid rfl, S5⟩
    case round =>
      obtain ⟨k, hk, rfl, HT, SW⟩ := hrel
      clear cS
      have cS := box_cells SW.out.a
      by_cases hlt : k < rc.length
      · obtain ⟨b, o, vs, ds, rfl, hbl, hx, hv, hc⟩ := HA.out.elem hlt
        obtain ⟨m0, m1, rnm, fs, re, m0a, m0c, m1a, m1c, fsa, fsc, rea, rec, hds, hvs, a_m0, a_m1, i_nm, a_fs, a_re, t_m0, t_m1, t_fs, t_re⟩ := hv.openC (HS.out _ (List.mem_of_getElem? hx))
        subst hvs
        have hdl : ds.length = 5 := by rw [hds]; rfl
        rw [hdl] at hc
        have B0 := SW.out.on HW.out
        have hbw : b < wr.heap.size := Nat.lt_of_lt_of_le hbl B0.size
        have C0 := Lib.hid (show ∀ j v, ([.slice m0a m0.length m0c, .slice m1a m1.length m1c, .string rnm, .slice fsa fs.length fsc, .slice rea re.length rec] : List Value)[j]? = some v → wr.cell? ⟨b, o + k * 5 + j, none⟩ = some v from fun j v hv => (B0.cell (p := ⟨b, o + k * 5 + j, none⟩) hbl).trans (hc j v hv))
        have hvl := Lib.hid (show ([.slice m0a m0.length m0c, .slice m1a m1.length m1c, .string rnm, .slice fsa fs.length fsc, .slice rea re.length rec] : List Value).length = 5 from rfl)
        have hvo := Lib.hid hv.one
        have KM := Lib.hid (fun (W : World) (hW : Below w0.heap.size w0 W) => refMarks_any w0 m0 m1 m0a m0c m1a m1c a_m0 a_m1 t_m0 t_m1 W hW)
        have KE := Lib.hid (fun (W : World) (hW : Below w0.heap.size w0 W) => refNotes_any w0 rea re.length rec re a_re t_re W hW)
        have KN := Lib.hid (fun (W : World) (_ : Below w0.heap.size w0 W) => refName_any 1 rnm W i_nm)
        have HAF := Lib.hid a_fs
        have HSF := Lib.hid t_fs
        have hlf := a_fs.len_le
        have HX := Lib.hid hx
        have HF := Lib.hid (show okC 1 ds = ((okNs m0 && okNs m1) && (okNs re && (okName 1 rnm && (decide (0 < fs.length) && (decide (fs.length ≤ 512) && fs.all (okF 1)))))) from by rw [hds]; exact okC_ref 1 m0 m1 rnm fs re)
        have S6 := Lib.hid (SW.out.al (.cells ⟨[.slice m0a m0.length m0c, .slice m1a m1.length m1c, .string rnm, .slice fsa fs.length fsc, .slice rea re.length rec]⟩ 62))
        have T6 := Lib.hid (SW.out.toBxb (.cells ⟨[.slice m0a m0.length m0c, .slice m1a m1.length m1c, .string rnm, .slice fsa fs.length fsc, .slice rea re.length rec]⟩ 62))
        clear cS
        have cS := box_cells SW.out.a
        have cT := box_cells T6.out.a
        clear hx hds hdl hc hv B0 a_m0 a_m1 a_fs a_re t_m0 t_m1 t_fs t_re i_nm
        obtain ⟨wp, rfl⟩ : ∃ wp, wp = wr := ⟨_, rfl⟩
        go_wp2_with (first
          | ((with_reducible refine wp_loadAgg (o := ⟨some 63, _, _, _, _, _⟩) rfl (.tmp 62) 62 rfl 5 Tryz.isAgg62 Tryz.sizeOf62 b (o + k * 5) ?_ [.slice m0a m0.length m0c, .slice m1a m1.length m1c, .string rnm, .slice fsa fs.length fsc, .slice rea re.length rec] hvl.out C0.out ?_); rfl)
          | ((with_reducible refine wp_storeNew (o := ⟨none, .store 62 (.tmp 6) (.tmp 63), _, _, _, _⟩) rfl (.tmp 6) (.tmp 63) 62 rfl 5 Tryz.sizeOf62 _ ?_ ?_ [.slice m0a m0.length m0c, .slice m1a m1.length m1c, .string rnm, .slice fsa fs.length fsc, .slice rea re.length rec] ?_ hvl.out hvo.out ?_); rfl; rfl; rfl))
        refine (KM.out _ (S6.out.on HW.out)).mono ?_
        rintro e w7 ⟨rfl, b7⟩
        have S7 := Lib.hid (S6.out.step b7)
        have T7 := Lib.hid (T6.out.step b7)
        clear b7 cS
        clear cT
        have cS := box_cells S7.out.a
        have cT := box_cells T7.out.a
        cases h7 : (okNs m0 && okNs m1) with
        | false =>
          rw [h7] at HF
          clear h7
          rw [all_bad (f := okC 1) HX.out (HF.out.trans rfl)] at HO
          go_wp2_with fail
          go_ret
          exact ⟨by rw [HO.out]; rfl, S7.out.bel⟩
        | true =>
        rw [h7, Bool.true_and] at HF
        clear h7
        go_wp2_with fail
        refine (KE.out _ (S7.out.on HW.out)).mono ?_
        rintro e w8 ⟨rfl, b8⟩
        have S8 := Lib.hid (S7.out.step b8)
        have T8 := Lib.hid (T7.out.step b8)
        clear b8 cS
        clear cT
        have cS := box_cells S8.out.a
        have cT := box_cells T8.out.a
        cases h8 : okNs re with
        | false =>
          rw [h8] at HF
          clear h8
          rw [all_bad (f := okC 1) HX.out (HF.out.trans rfl)] at HO
          go_wp2_with fail
          go_ret
          exact ⟨by rw [HO.out]; rfl, S8.out.bel⟩
        | true =>
        rw [h8, Bool.true_and] at HF
        clear h8
        go_wp2_with fail
        refine (KN.out _ (S8.out.on HW.out)).mono ?_
        rintro e w9 ⟨rfl, b9⟩
        have S9 := Lib.hid (S8.out.step b9)
        have T9 := Lib.hid (T8.out.step b9)
        clear b9 cS
        clear cT
        have cS := box_cells S9.out.a
        have cT := box_cells T9.out.a
        cases h9 : okName 1 rnm with
        | false =>
          rw [h9] at HF
          clear h9
          rw [all_bad (f := okC 1) HX.out (HF.out.trans rfl)] at HO
          go_wp2_with fail
          go_ret
          exact ⟨by rw [HO.out]; rfl, S9.out.bel⟩
        | true =>
        rw [h9, Bool.true_and] at HF
        clear h9
        by_cases hz : fs.length = 0
        · have g1 : ((fs.length : Int) == 0) = true := by rw [beq_iff_eq]; omega
          have g2 : (fs.length == 0) = true := by rw [beq_iff_eq]; omega
          rw [decide_eq_false (show ¬ 0 < fs.length by omega)] at HF
          clear hz
          rw [all_bad (f := okC 1) HX.out (HF.out.trans rfl)] at HO
          go_wp2_with fail
          go_ret
          exact ⟨by rw [HO.out]; rfl, S9.out.bel⟩
        have g1 : ((fs.length : Int) == 0) = false := by rw [beq_eq_false_iff_ne]; omega
        have g2 : (fs.length == 0) = false := by rw [beq_eq_false_iff_ne]; omega
        rw [decide_eq_true (show 0 < fs.length by omega), Bool.true_and] at HF
        clear hz
        by_cases hbg : 512 < fs.length
        · have hg1 : decide ((512 : Int) < (fs.length : Int)) = true := by simp; omega
          have hg2 : decide (512 < fs.length) = true := decide_eq_true hbg
          rw [decide_eq_false (show ¬ fs.length ≤ 512 by omega)] at HF
          clear hbg
          rw [all_bad (f := okC 1) HX.out (HF.out.trans rfl)] at HO
          go_wp2_with fail
          go_ret
          exact ⟨by rw [HO.out]; rfl, S9.out.bel⟩
        have hg1 : decide ((512 : Int) < (fs.length : Int)) = false := by simp; omega
        have hg2 : decide (512 < fs.length) = false := decide_eq_false hbg
        rw [decide_eq_true (show fs.length ≤ 512 by omega), Bool.true_and] at HF
        clear hbg
        go_wp2_with fail
        go_loopw [7] (fun i wr => ∃ j : Nat, j ≤ fs.length ∧ i = .int .i64 j ∧ Hid ((fs.take j).all (okF 1) = true) ∧ Hid (Bx1 w (.cells #[.string nm, .slice bea be.length bec, .slice mia mi.length mic, .slice afa af.length afc, .slice (some ⟨b, o, none⟩) rc.length rcc, .slice vra vr.length vrc, .slice rta rt.length rtc, .slice bda bd.length bdc, .slice ena en.length enc] 35) wr) ∧ Hid (Bxb w wp.heap.size (.cells ⟨[.slice m0a m0.length m0c, .slice m1a m1.length m1c, .string rnm, .slice fsa fs.length fsc, .slice rea re.length rec]⟩ 62) wr)) (fun i _ => fs.length - (intOf i).toNat)
        case atStart => exact ⟨0, Nat.zero_le _, rfl, Lib.hid rfl, S9, T9⟩
        case round =>
          obtain ⟨j, hj, rfl, HTF, SV, TV⟩ := hrel
          clear cS cT
          have cS := box_cells SV.out.a
          have cT := box_cells TV.out.a
          by_cases hjt : j < fs.length
          · obtain ⟨b2, o2, us, es, rfl, hbl2, hy, hu, hc2⟩ := HAF.out.elem hjt
            obtain ⟨f0, f1, fnm, fkd, f0a, f0c, f1a, f1c, hes, hus, a_f0, a_f1, i_fn, _, t_f0, t_f1⟩ := hu.openF (HSF.out _ (List.mem_of_getElem? hy))
            subst hus
            have hel : es.length = 4 := by rw [hes]; rfl
            rw [hel] at hc2
            have B2 := SV.out.on HW.out
            have hbw2 : b2 < wr.heap.size := Nat.lt_of_lt_of_le hbl2 B2.size
            have C2 := Lib.hid (show ∀ i v, ([.slice f0a f0.length f0c, .slice f1a f1.length f1c, .string fnm, .int .i64 fkd] : List Value)[i]? = some v → wr.cell? ⟨b2, o2 + j * 4 + i, none⟩ = some v from fun i v hv => (B2.cell (p := ⟨b2, o2 + j * 4 + i, none⟩) hbl2).trans (hc2 i v hv))
            have hul := Lib.hid (show ([.slice f0a f0.length f0c, .slice f1a f1.length f1c, .string fnm, .int .i64 fkd] : List Value).length = 4 from rfl)
            have huo := Lib.hid hu.one
            have KF := Lib.hid (fun (W : World) (hW : Below w0.heap.size w0 W) => refMarks_any w0 f0 f1 f0a f0c f1a f1c a_f0 a_f1 t_f0 t_f1 W hW)
            have KG := Lib.hid (fun (W : World) (_ : Below w0.heap.size w0 W) => refName_any 1 fnm W i_fn)
            have HY := Lib.hid hy
            have HG := Lib.hid (show okF 1 es = ((okNs f0 && okNs f1) && (okName 1 fnm && (!decide (fkd < 1) && !decide (3 < fkd)))) from by rw [hes]; exact okF_ref 1 f0 f1 fnm fkd)
            have S10 := Lib.hid (SV.out.al (.cells ⟨[.slice f0a f0.length f0c, .slice f1a f1.length f1c, .string fnm, .int .i64 fkd]⟩ 65))
            have T10 := Lib.hid (TV.out.al (.cells ⟨[.slice f0a f0.length f0c, .slice f1a f1.length f1c, .string fnm, .int .i64 fkd]⟩ 65))
            have U10 := Lib.hid (SV.out.toBxb (.cells ⟨[.slice f0a f0.length f0c, .slice f1a f1.length f1c, .string fnm, .int .i64 fkd]⟩ 65))
            have cU := box_cells U10.out.a
            clear hy hes hel hc2 hu B2 a_f0 a_f1 t_f0 t_f1 i_fn
            go_wp2_with (first
              | ((with_reducible refine wp_loadAgg (o := ⟨some 104, _, _, _, _, _⟩) rfl (.tmp 103) 65 rfl 4 Tryz.isAgg65 Tryz.sizeOf65 b2 (o2 + j * 4) ?_ [.slice f0a f0.length f0c, .slice f1a f1.length f1c, .string fnm, .int .i64 fkd] hul.out C2.out ?_); rfl)
              | ((with_reducible refine wp_storeNew (o := ⟨none, .store 65 (.tmp 8) (.tmp 104), _, _, _, _⟩) rfl (.tmp 8) (.tmp 104) 65 rfl 4 Tryz.sizeOf65 _ ?_ ?_ [.slice f0a f0.length f0c, .slice f1a f1.length f1c, .string fnm, .int .i64 fkd] ?_ hul.out huo.out ?_); rfl; rfl; rfl))
            refine (KF.out _ (S10.out.on HW.out)).mono ?_
            rintro e w11 ⟨rfl, b11⟩
            have S11 := Lib.hid (S10.out.step b11)
            have T11 := Lib.hid (T10.out.step b11)
            have U11 := Lib.hid (U10.out.step b11)
            clear b11 cS
            clear cT
            clear cU
            have cS := box_cells S11.out.a
            have cT := box_cells T11.out.a
            have cU := box_cells U11.out.a
            cases h11 : (okNs f0 && okNs f1) with
            | false =>
              rw [h11] at HG
              clear h11
              rw [all_bad (f := okF 1) HY.out (HG.out.trans rfl)] at HF
              rw [all_bad (f := okC 1) HX.out (HF.out.trans rfl)] at HO
              go_wp2_with fail
              go_ret
              exact ⟨by rw [HO.out]; rfl, S11.out.bel⟩
            | true =>
            rw [h11, Bool.true_and] at HG
            clear h11
            go_wp2_with fail
            refine (KG.out _ (S11.out.on HW.out)).mono ?_
            rintro e w12 ⟨rfl, b12⟩
            have S12 := Lib.hid (S11.out.step b12)
            have T12 := Lib.hid (T11.out.step b12)
            have U12 := Lib.hid (U11.out.step b12)
            clear b12 cS
            clear cT
            clear cU
            have cS := box_cells S12.out.a
            have cT := box_cells T12.out.a
            have cU := box_cells U12.out.a
            cases h12 : okName 1 fnm with
            | false =>
              rw [h12] at HG
              clear h12
              rw [all_bad (f := okF 1) HY.out (HG.out.trans rfl)] at HF
              rw [all_bad (f := okC 1) HX.out (HF.out.trans rfl)] at HO
              go_wp2_with fail
              go_ret
              exact ⟨by rw [HO.out]; rfl, S12.out.bel⟩
            | true =>
            rw [h12, Bool.true_and] at HG
            clear h12
            cases hk1 : decide (fkd < 1) with
            | true =>
              rw [hk1] at HG
              rw [all_bad (f := okF 1) HY.out (HG.out.trans rfl)] at HF
              rw [all_bad (f := okC 1) HX.out (HF.out.trans rfl)] at HO
              go_wp2_with fail
              go_ret
              exact ⟨by rw [HO.out]; rfl, S12.out.bel⟩
            | false =>
            rw [hk1, Bool.not_false, Bool.true_and] at HG
            cases hk3 : decide (3 < fkd) with
            | true =>
              rw [hk3] at HG
              rw [all_bad (f := okF 1) HY.out (HG.out.trans rfl)] at HF
              rw [all_bad (f := okC 1) HX.out (HF.out.trans rfl)] at HO
              go_wp2_with fail
              go_ret
              exact ⟨by rw [HO.out]; rfl, S12.out.bel⟩
            | false =>
            rw [hk3, Bool.not_false] at HG
            have HE := Lib.hid (all_take_succ (f := okF 1) HY.out HTF.out HG.out)
            go_wp2_with fail
            go_roundw
            case rel => exact ⟨j + 1, by omega, by go_num, HE, S12, T12⟩
            case measure => simp [intOf]; omega
          · obtain rfl : j = fs.length := by omega
            have hal := HTF.out
            rw [List.take_length] at hal
            rw [hal] at HF
            clear hal
            have HE := Lib.hid (all_take_succ (f := okC 1) HX.out HT.out HF.out)
            go_wp2_with fail
            go_roundw
            case rel => exact ⟨k + 1, by omega, by go_num, HE, SV⟩
            case measure => simp [intOf]; omega
      · obtain rfl : k = rc.length := by omega
        have hal := HT.out
        rw [List.take_length] at hal
        rw [hal, Bool.true_and] at HO
        clear hal
        have S13 := SW
        go_wp2_with fail
        refine (K_vr.out _ (S13.out.on HW.out)).mono ?_
        rintro e w14 ⟨rfl, b14⟩
        have S14 := Lib.hid (S13.out.step b14)
        clear b14 cS
        have cS := box_cells S14.out.a
        cases h14 : okAll vr (okV 1) with
        | false =>
          rw [h14] at HO
          clear h14
          go_wp2_with fail
          go_ret
          exact ⟨by rw [HO.out]; rfl, S14.out.bel⟩
        | true =>
        rw [h14, Bool.true_and] at HO
        clear h14
        go_wp2_with fail
        refine (K_rt.out _ (S14.out.on HW.out)).mono ?_
        rintro e w15 ⟨rfl, b15⟩
        have S15 := Lib.hid (S14.out.step b15)
        clear b15 cS
        have cS := box_cells S15.out.a
        cases h15 : okRs fR rt with
        | false =>
          rw [h15] at HO
          clear h15
          go_wp2_with fail
          go_ret
          exact ⟨by rw [HO.out]; rfl, S15.out.bel⟩
        | true =>
        rw [h15, Bool.true_and] at HO
        clear h15
        go_wp2_with fail
        refine (K_bd.out _ (S15.out.on HW.out)).mono ?_
        rintro e w16 ⟨rfl, b16⟩
        have S16 := Lib.hid (S15.out.step b16)
        clear b16 cS
        cases hlast : okAll bd fS with
        | false =>
          rw [hlast] at HO
          go_wp2_with fail
          go_ret
          exact ⟨by rw [HO.out]; rfl, S16.out.bel⟩
        | true =>
        rw [hlast] at HO
        go_wp2_with fail
        go_ret
        exact ⟨by rw [HO.out]; rfl, S16.out.bel⟩
end Go.Proofs.YtciijpahjjoppaaGreat
end
