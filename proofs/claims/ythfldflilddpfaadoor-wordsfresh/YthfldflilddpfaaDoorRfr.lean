/-
  The reference's Fresh, walked.
-/
import Derived.Test.YthfldflilddpfaaDoorFrs
namespace Go.Proofs.YthfldflilddpfaaDoor
open Go.RowKit

theorem below_drewN {B : Nat} {a b : World} (h : Below B a b) (n : Nat) : Below B a (b.drewN n) := ⟨h.os, h.tape, h.output, h.size, h.block⟩
theorem isIn_used (x : ByteArray) (ss : List ByteArray) : isIn x (used ss) = (isIn x ss || isIn x (wordsOf 0) || isIn x (wordsOf 1)) := by
  rw [Bool.eq_iff_iff, isIn_iff, mem_used, Bool.or_eq_true, Bool.or_eq_true, isIn_iff, isIn_iff, isIn_iff, or_assoc]
theorem isIn_cand0 (s : ByteArray) (k : Nat) : isIn (cand s (k + 1)) (wordsOf 0) = false := (isIn_not _ _).2 (cand_noPas s k)
theorem isIn_cand1 (s : ByteArray) (k : Nat) : isIn (cand s (k + 1)) (wordsOf 1) = false := (isIn_not _ _).2 (cand_noCee s k)
theorem itoa_nat (k : Nat) : Lib.itoa (((k + 1 : Nat) : Int)) = Lib.decDigits (k + 1) := by
  unfold Lib.itoa
  rw [if_neg (by omega)]
  rfl

set_option maxHeartbeats 3200000 in
theorem refFresh_any (s : ByteArray) (a : Option Addr) (len cap : Nat) (ss : List ByteArray) (w : World) (hs : s.size ≤ maxLen) (hS : IsStrs w a len cap ss) (hl : len ≤ 61) :
    Calls Tryd.prog 18 #[.string s, .slice a len cap] w fun e w' => ∃ t, e = .returned (.string t) ∧ IsFresh s ss t ∧ t.size ≤ maxLen ∧ Below w.heap.size w w' := by
  have HS := Lib.hid hS
  have HZ := Lib.hid hs
  have hsz : s.size ≤ 9223372036854775807 := by unfold maxLen at hs; omega
  clear hS hs
  have HU := Lib.hid (isIn_used s ss)
  go_enter Tryd.func18, Tryd.ntmps18
  go_wp2_with fail
  refine (refIs_any 0 s _).mono ?_
  rintro e w1 ⟨rfl, b1⟩
  have B1 := Lib.hid b1
  clear b1
  cases h0 : isIn s (wordsOf 0) with
  | true =>
    have BZ := B1
    clear B1
    have HM : isIn s (used ss) = true := by rw [HU.out, h0]; simp
    have HM := Lib.hid ((isIn_iff _ _).1 HM)
    clear h0 HU
    by_cases hlong : 24 < s.size
    · have HA := Lib.hid (ahead_of s 24 (by omega))
      have hd : decide ((24 : Int) < (s.size : Int)) = true := by simp; omega
      go_wp2_with fail
      clear hlong
      generalize s.extract 0 24 = A at HA ⊢
      have hAs : A.size ≤ 24 := by
        have h1 : A.data.toList.length = A.size := by simp
        rw [← h1, HA.out]
        exact List.length_take_le _ _
      go_loopw [6] (fun i wr => ∃ k : Nat, i = .int .i64 ((k + 1 : Nat) : Int) ∧ (∀ j, j < k + 1 → cand s j ∈ used ss) ∧ Below w.heap.size w wr)
        (fun i _ => len + 2 - (intOf i).toNat)
      case atStart => exact ⟨0, rfl, fun j hj => by obtain rfl : j = 0 := (by omega); exact HM.out, BZ.out⟩
      case round =>
        obtain ⟨k, rfl, hno, hnx⟩ := hrel
        have hk := fresh_bound hno
        rw [HS.out.1] at hk
        have HNO := Lib.hid hno
        have HB := Lib.hid hnx
        clear hno hnx
        obtain ⟨A1, hA1⟩ : ∃ A1, A ++ ⟨#[95]⟩ = A1 := ⟨_, rfl⟩
        obtain ⟨D, hD⟩ : ∃ D : ByteArray, D = ⟨(Lib.decDigits (k + 1)).toArray⟩ := ⟨_, rfl⟩
        obtain ⟨C, hC⟩ : ∃ C, A1 ++ D = C := ⟨_, rfl⟩
        have hCc := cand_add s A A1 D C k HA.out hA1 hD hC
        have hA1s : A1.size ≤ 25 := by rw [← hA1, ByteArray.size_append]; show ByteArray.size A + 1 ≤ 25; omega
        have hCs0 : C.size ≤ maxLen := by rw [hCc]; exact cand_size s (k + 1) (by omega) HZ.out
        have HCs := Lib.hid hCs0
        have hCs : C.size ≤ 9223372036854775807 := hCs0
        have add1 := add_run A ⟨#[95]⟩ A1 hA1 (by omega)
        have add2 := add_run A1 D C hC (by omega)
        have HD := Lib.hid hD
        have HC := Lib.hid hCc
        clear hA1 hD hC hCc hCs0
        go_wp2_with fail
        refine (refDigits_pos ((k + 1 : Nat) : Int) _ (by omega) (by omega)).mono ?_
        rw [itoa_nat, ← HD.out]
        rintro e w6 ⟨rfl, nd, rfl⟩
        have HB6 := Lib.hid (below_drewN HB.out nd)
        generalize wr.drewN nd = w6 at HB6 ⊢
        clear HB
        go_wp2_with fail
        refine (refIs_any 0 C _).mono ?_
        rw [show isIn C (wordsOf 0) = false by rw [HC.out]; exact isIn_cand0 s k]
        rintro e w7 ⟨rfl, b7⟩
        have HB7 := Lib.hid (HB6.out.trans (b7.mono HB6.out.size))
        clear b7 HB6
        go_wp2_with fail
        refine (refIs_any 1 C _).mono ?_
        rw [show isIn C (wordsOf 1) = false by rw [HC.out]; exact isIn_cand1 s k]
        rintro e w8 ⟨rfl, b8⟩
        have HB8 := Lib.hid (HB7.out.trans (b8.mono HB7.out.size))
        clear b8 HB7
        go_wp2_with fail
        refine (among_any _ _ _ ss C _ (HS.out.below HB8.out)).mono ?_
        rintro e w9 ⟨rfl, rfl⟩
        have HI := Lib.hid (isIn_used C ss)
        cases hb : isIn C ss with
        | true =>
          have hno2 : ∀ j, j < k + 1 + 1 → cand s j ∈ used ss := fun j hj => by
            by_cases e : j = k + 1
            · rw [e, ← HC.out]
              exact (isIn_iff _ _).1 (by rw [HI.out, hb]; rfl)
            · exact HNO.out j (by omega)
          have hk2 := fresh_bound hno2
          rw [HS.out.1] at hk2
          have HNO2 := Lib.hid hno2
          clear hb hno2
          go_wp2_with fail
          go_roundw
          case rel => exact ⟨k + 1, by go_num, HNO2.out, HB8.out⟩
          case measure => simp [intOf]; omega
        | false =>
          have hmem : C ∉ used ss := (isIn_not _ _).1 (by rw [HI.out, hb, HC.out, isIn_cand0, isIn_cand1]; rfl)
          clear hb
          go_wp2_with fail
          go_ret
          exact ⟨C, rfl, ⟨k + 1, HC.out, hmem, HNO.out⟩, HCs.out, HB8.out⟩
    · have HA : s.data.toList = s.data.toList.take 24 := by
        have h1 : s.data.toList.length = s.size := by simp
        rw [List.take_of_length_le (by omega)]
      have HA := Lib.hid HA
      have hAs : s.size ≤ 24 := by omega
      have hd : decide ((24 : Int) < (s.size : Int)) = false := by simp; omega
      go_wp2_with fail
      go_loopw [6] (fun i wr => ∃ k : Nat, i = .int .i64 ((k + 1 : Nat) : Int) ∧ (∀ j, j < k + 1 → cand s j ∈ used ss) ∧ Below w.heap.size w wr)
        (fun i _ => len + 2 - (intOf i).toNat)
      case atStart => exact ⟨0, rfl, fun j hj => by obtain rfl : j = 0 := (by omega); exact HM.out, BZ.out⟩
      case round =>
        obtain ⟨k, rfl, hno, hnx⟩ := hrel
        have hk := fresh_bound hno
        rw [HS.out.1] at hk
        have HNO := Lib.hid hno
        have HB := Lib.hid hnx
        clear hno hnx
        obtain ⟨A1, hA1⟩ : ∃ A1, s ++ ⟨#[95]⟩ = A1 := ⟨_, rfl⟩
        obtain ⟨D, hD⟩ : ∃ D : ByteArray, D = ⟨(Lib.decDigits (k + 1)).toArray⟩ := ⟨_, rfl⟩
        obtain ⟨C, hC⟩ : ∃ C, A1 ++ D = C := ⟨_, rfl⟩
        have hCc := cand_add s s A1 D C k HA.out hA1 hD hC
        have hA1s : A1.size ≤ 25 := by rw [← hA1, ByteArray.size_append]; show ByteArray.size s + 1 ≤ 25; omega
        have hCs0 : C.size ≤ maxLen := by rw [hCc]; exact cand_size s (k + 1) (by omega) HZ.out
        have HCs := Lib.hid hCs0
        have hCs : C.size ≤ 9223372036854775807 := hCs0
        have add1 := add_run s ⟨#[95]⟩ A1 hA1 (by omega)
        have add2 := add_run A1 D C hC (by omega)
        have HD := Lib.hid hD
        have HC := Lib.hid hCc
        clear hA1 hD hC hCc hCs0
        go_wp2_with fail
        refine (refDigits_pos ((k + 1 : Nat) : Int) _ (by omega) (by omega)).mono ?_
        rw [itoa_nat, ← HD.out]
        rintro e w6 ⟨rfl, nd, rfl⟩
        have HB6 := Lib.hid (below_drewN HB.out nd)
        generalize wr.drewN nd = w6 at HB6 ⊢
        clear HB
        go_wp2_with fail
        refine (refIs_any 0 C _).mono ?_
        rw [show isIn C (wordsOf 0) = false by rw [HC.out]; exact isIn_cand0 s k]
        rintro e w7 ⟨rfl, b7⟩
        have HB7 := Lib.hid (HB6.out.trans (b7.mono HB6.out.size))
        clear b7 HB6
        go_wp2_with fail
        refine (refIs_any 1 C _).mono ?_
        rw [show isIn C (wordsOf 1) = false by rw [HC.out]; exact isIn_cand1 s k]
        rintro e w8 ⟨rfl, b8⟩
        have HB8 := Lib.hid (HB7.out.trans (b8.mono HB7.out.size))
        clear b8 HB7
        go_wp2_with fail
        refine (among_any _ _ _ ss C _ (HS.out.below HB8.out)).mono ?_
        rintro e w9 ⟨rfl, rfl⟩
        have HI := Lib.hid (isIn_used C ss)
        cases hb : isIn C ss with
        | true =>
          have hno2 : ∀ j, j < k + 1 + 1 → cand s j ∈ used ss := fun j hj => by
            by_cases e : j = k + 1
            · rw [e, ← HC.out]
              exact (isIn_iff _ _).1 (by rw [HI.out, hb]; rfl)
            · exact HNO.out j (by omega)
          have hk2 := fresh_bound hno2
          rw [HS.out.1] at hk2
          have HNO2 := Lib.hid hno2
          clear hb hno2
          go_wp2_with fail
          go_roundw
          case rel => exact ⟨k + 1, by go_num, HNO2.out, HB8.out⟩
          case measure => simp [intOf]; omega
        | false =>
          have hmem : C ∉ used ss := (isIn_not _ _).1 (by rw [HI.out, hb, HC.out, isIn_cand0, isIn_cand1]; rfl)
          clear hb
          go_wp2_with fail
          go_ret
          exact ⟨C, rfl, ⟨k + 1, HC.out, hmem, HNO.out⟩, HCs.out, HB8.out⟩
  | false =>
    go_wp2_with fail
    refine (refIs_any 1 s _).mono ?_
    rintro e w2 ⟨rfl, b2⟩
    have B2 := Lib.hid (B1.out.trans (b2.mono B1.out.size))
    clear b2 B1
    cases h1 : isIn s (wordsOf 1) with
    | true =>
      have BZ := B2
      clear B2 h0
      have HM : isIn s (used ss) = true := by rw [HU.out, h1]; simp
      have HM := Lib.hid ((isIn_iff _ _).1 HM)
      clear h1 HU
      by_cases hlong : 24 < s.size
      · have HA := Lib.hid (ahead_of s 24 (by omega))
        have hd : decide ((24 : Int) < (s.size : Int)) = true := by simp; omega
        go_wp2_with fail
        clear hlong
        generalize s.extract 0 24 = A at HA ⊢
        have hAs : A.size ≤ 24 := by
          have h1 : A.data.toList.length = A.size := by simp
          rw [← h1, HA.out]
          exact List.length_take_le _ _
        go_loopw [6] (fun i wr => ∃ k : Nat, i = .int .i64 ((k + 1 : Nat) : Int) ∧ (∀ j, j < k + 1 → cand s j ∈ used ss) ∧ Below w.heap.size w wr)
          (fun i _ => len + 2 - (intOf i).toNat)
        case atStart => exact ⟨0, rfl, fun j hj => by obtain rfl : j = 0 := (by omega); exact HM.out, BZ.out⟩
        case round =>
          obtain ⟨k, rfl, hno, hnx⟩ := hrel
          have hk := fresh_bound hno
          rw [HS.out.1] at hk
          have HNO := Lib.hid hno
          have HB := Lib.hid hnx
          clear hno hnx
          obtain ⟨A1, hA1⟩ : ∃ A1, A ++ ⟨#[95]⟩ = A1 := ⟨_, rfl⟩
          obtain ⟨D, hD⟩ : ∃ D : ByteArray, D = ⟨(Lib.decDigits (k + 1)).toArray⟩ := ⟨_, rfl⟩
          obtain ⟨C, hC⟩ : ∃ C, A1 ++ D = C := ⟨_, rfl⟩
          have hCc := cand_add s A A1 D C k HA.out hA1 hD hC
          have hA1s : A1.size ≤ 25 := by rw [← hA1, ByteArray.size_append]; show ByteArray.size A + 1 ≤ 25; omega
          have hCs0 : C.size ≤ maxLen := by rw [hCc]; exact cand_size s (k + 1) (by omega) HZ.out
          have HCs := Lib.hid hCs0
          have hCs : C.size ≤ 9223372036854775807 := hCs0
          have add1 := add_run A ⟨#[95]⟩ A1 hA1 (by omega)
          have add2 := add_run A1 D C hC (by omega)
          have HD := Lib.hid hD
          have HC := Lib.hid hCc
          clear hA1 hD hC hCc hCs0
          go_wp2_with fail
          refine (refDigits_pos ((k + 1 : Nat) : Int) _ (by omega) (by omega)).mono ?_
          rw [itoa_nat, ← HD.out]
          rintro e w6 ⟨rfl, nd, rfl⟩
          have HB6 := Lib.hid (below_drewN HB.out nd)
          generalize wr.drewN nd = w6 at HB6 ⊢
          clear HB
          go_wp2_with fail
          refine (refIs_any 0 C _).mono ?_
          rw [show isIn C (wordsOf 0) = false by rw [HC.out]; exact isIn_cand0 s k]
          rintro e w7 ⟨rfl, b7⟩
          have HB7 := Lib.hid (HB6.out.trans (b7.mono HB6.out.size))
          clear b7 HB6
          go_wp2_with fail
          refine (refIs_any 1 C _).mono ?_
          rw [show isIn C (wordsOf 1) = false by rw [HC.out]; exact isIn_cand1 s k]
          rintro e w8 ⟨rfl, b8⟩
          have HB8 := Lib.hid (HB7.out.trans (b8.mono HB7.out.size))
          clear b8 HB7
          go_wp2_with fail
          refine (among_any _ _ _ ss C _ (HS.out.below HB8.out)).mono ?_
          rintro e w9 ⟨rfl, rfl⟩
          have HI := Lib.hid (isIn_used C ss)
          cases hb : isIn C ss with
          | true =>
            have hno2 : ∀ j, j < k + 1 + 1 → cand s j ∈ used ss := fun j hj => by
              by_cases e : j = k + 1
              · rw [e, ← HC.out]
                exact (isIn_iff _ _).1 (by rw [HI.out, hb]; rfl)
              · exact HNO.out j (by omega)
            have hk2 := fresh_bound hno2
            rw [HS.out.1] at hk2
            have HNO2 := Lib.hid hno2
            clear hb hno2
            go_wp2_with fail
            go_roundw
            case rel => exact ⟨k + 1, by go_num, HNO2.out, HB8.out⟩
            case measure => simp [intOf]; omega
          | false =>
            have hmem : C ∉ used ss := (isIn_not _ _).1 (by rw [HI.out, hb, HC.out, isIn_cand0, isIn_cand1]; rfl)
            clear hb
            go_wp2_with fail
            go_ret
            exact ⟨C, rfl, ⟨k + 1, HC.out, hmem, HNO.out⟩, HCs.out, HB8.out⟩
      · have HA : s.data.toList = s.data.toList.take 24 := by
          have h1 : s.data.toList.length = s.size := by simp
          rw [List.take_of_length_le (by omega)]
        have HA := Lib.hid HA
        have hAs : s.size ≤ 24 := by omega
        have hd : decide ((24 : Int) < (s.size : Int)) = false := by simp; omega
        go_wp2_with fail
        go_loopw [6] (fun i wr => ∃ k : Nat, i = .int .i64 ((k + 1 : Nat) : Int) ∧ (∀ j, j < k + 1 → cand s j ∈ used ss) ∧ Below w.heap.size w wr)
          (fun i _ => len + 2 - (intOf i).toNat)
        case atStart => exact ⟨0, rfl, fun j hj => by obtain rfl : j = 0 := (by omega); exact HM.out, BZ.out⟩
        case round =>
          obtain ⟨k, rfl, hno, hnx⟩ := hrel
          have hk := fresh_bound hno
          rw [HS.out.1] at hk
          have HNO := Lib.hid hno
          have HB := Lib.hid hnx
          clear hno hnx
          obtain ⟨A1, hA1⟩ : ∃ A1, s ++ ⟨#[95]⟩ = A1 := ⟨_, rfl⟩
          obtain ⟨D, hD⟩ : ∃ D : ByteArray, D = ⟨(Lib.decDigits (k + 1)).toArray⟩ := ⟨_, rfl⟩
          obtain ⟨C, hC⟩ : ∃ C, A1 ++ D = C := ⟨_, rfl⟩
          have hCc := cand_add s s A1 D C k HA.out hA1 hD hC
          have hA1s : A1.size ≤ 25 := by rw [← hA1, ByteArray.size_append]; show ByteArray.size s + 1 ≤ 25; omega
          have hCs0 : C.size ≤ maxLen := by rw [hCc]; exact cand_size s (k + 1) (by omega) HZ.out
          have HCs := Lib.hid hCs0
          have hCs : C.size ≤ 9223372036854775807 := hCs0
          have add1 := add_run s ⟨#[95]⟩ A1 hA1 (by omega)
          have add2 := add_run A1 D C hC (by omega)
          have HD := Lib.hid hD
          have HC := Lib.hid hCc
          clear hA1 hD hC hCc hCs0
          go_wp2_with fail
          refine (refDigits_pos ((k + 1 : Nat) : Int) _ (by omega) (by omega)).mono ?_
          rw [itoa_nat, ← HD.out]
          rintro e w6 ⟨rfl, nd, rfl⟩
          have HB6 := Lib.hid (below_drewN HB.out nd)
          generalize wr.drewN nd = w6 at HB6 ⊢
          clear HB
          go_wp2_with fail
          refine (refIs_any 0 C _).mono ?_
          rw [show isIn C (wordsOf 0) = false by rw [HC.out]; exact isIn_cand0 s k]
          rintro e w7 ⟨rfl, b7⟩
          have HB7 := Lib.hid (HB6.out.trans (b7.mono HB6.out.size))
          clear b7 HB6
          go_wp2_with fail
          refine (refIs_any 1 C _).mono ?_
          rw [show isIn C (wordsOf 1) = false by rw [HC.out]; exact isIn_cand1 s k]
          rintro e w8 ⟨rfl, b8⟩
          have HB8 := Lib.hid (HB7.out.trans (b8.mono HB7.out.size))
          clear b8 HB7
          go_wp2_with fail
          refine (among_any _ _ _ ss C _ (HS.out.below HB8.out)).mono ?_
          rintro e w9 ⟨rfl, rfl⟩
          have HI := Lib.hid (isIn_used C ss)
          cases hb : isIn C ss with
          | true =>
            have hno2 : ∀ j, j < k + 1 + 1 → cand s j ∈ used ss := fun j hj => by
              by_cases e : j = k + 1
              · rw [e, ← HC.out]
                exact (isIn_iff _ _).1 (by rw [HI.out, hb]; rfl)
              · exact HNO.out j (by omega)
            have hk2 := fresh_bound hno2
            rw [HS.out.1] at hk2
            have HNO2 := Lib.hid hno2
            clear hb hno2
            go_wp2_with fail
            go_roundw
            case rel => exact ⟨k + 1, by go_num, HNO2.out, HB8.out⟩
            case measure => simp [intOf]; omega
          | false =>
            have hmem : C ∉ used ss := (isIn_not _ _).1 (by rw [HI.out, hb, HC.out, isIn_cand0, isIn_cand1]; rfl)
            clear hb
            go_wp2_with fail
            go_ret
            exact ⟨C, rfl, ⟨k + 1, HC.out, hmem, HNO.out⟩, HCs.out, HB8.out⟩
    | false =>
      go_wp2_with fail
      refine (among_any _ _ _ ss s _ (HS.out.below B2.out)).mono ?_
      rintro e w3 ⟨rfl, rfl⟩
      cases h2 : isIn s ss with
      | true =>
        have BZ := B2
        clear B2 h0 h1
        have HM : isIn s (used ss) = true := by rw [HU.out, h2]; simp
        have HM := Lib.hid ((isIn_iff _ _).1 HM)
        clear h2 HU
        by_cases hlong : 24 < s.size
        · have HA := Lib.hid (ahead_of s 24 (by omega))
          have hd : decide ((24 : Int) < (s.size : Int)) = true := by simp; omega
          go_wp2_with fail
          clear hlong
          generalize s.extract 0 24 = A at HA ⊢
          have hAs : A.size ≤ 24 := by
            have h1 : A.data.toList.length = A.size := by simp
            rw [← h1, HA.out]
            exact List.length_take_le _ _
          go_loopw [6] (fun i wr => ∃ k : Nat, i = .int .i64 ((k + 1 : Nat) : Int) ∧ (∀ j, j < k + 1 → cand s j ∈ used ss) ∧ Below w.heap.size w wr)
            (fun i _ => len + 2 - (intOf i).toNat)
          case atStart => exact ⟨0, rfl, fun j hj => by obtain rfl : j = 0 := (by omega); exact HM.out, BZ.out⟩
          case round =>
            obtain ⟨k, rfl, hno, hnx⟩ := hrel
            have hk := fresh_bound hno
            rw [HS.out.1] at hk
            have HNO := Lib.hid hno
            have HB := Lib.hid hnx
            clear hno hnx
            obtain ⟨A1, hA1⟩ : ∃ A1, A ++ ⟨#[95]⟩ = A1 := ⟨_, rfl⟩
            obtain ⟨D, hD⟩ : ∃ D : ByteArray, D = ⟨(Lib.decDigits (k + 1)).toArray⟩ := ⟨_, rfl⟩
            obtain ⟨C, hC⟩ : ∃ C, A1 ++ D = C := ⟨_, rfl⟩
            have hCc := cand_add s A A1 D C k HA.out hA1 hD hC
            have hA1s : A1.size ≤ 25 := by rw [← hA1, ByteArray.size_append]; show ByteArray.size A + 1 ≤ 25; omega
            have hCs0 : C.size ≤ maxLen := by rw [hCc]; exact cand_size s (k + 1) (by omega) HZ.out
            have HCs := Lib.hid hCs0
            have hCs : C.size ≤ 9223372036854775807 := hCs0
            have add1 := add_run A ⟨#[95]⟩ A1 hA1 (by omega)
            have add2 := add_run A1 D C hC (by omega)
            have HD := Lib.hid hD
            have HC := Lib.hid hCc
            clear hA1 hD hC hCc hCs0
            go_wp2_with fail
            refine (refDigits_pos ((k + 1 : Nat) : Int) _ (by omega) (by omega)).mono ?_
            rw [itoa_nat, ← HD.out]
            rintro e w6 ⟨rfl, nd, rfl⟩
            have HB6 := Lib.hid (below_drewN HB.out nd)
            generalize wr.drewN nd = w6 at HB6 ⊢
            clear HB
            go_wp2_with fail
            refine (refIs_any 0 C _).mono ?_
            rw [show isIn C (wordsOf 0) = false by rw [HC.out]; exact isIn_cand0 s k]
            rintro e w7 ⟨rfl, b7⟩
            have HB7 := Lib.hid (HB6.out.trans (b7.mono HB6.out.size))
            clear b7 HB6
            go_wp2_with fail
            refine (refIs_any 1 C _).mono ?_
            rw [show isIn C (wordsOf 1) = false by rw [HC.out]; exact isIn_cand1 s k]
            rintro e w8 ⟨rfl, b8⟩
            have HB8 := Lib.hid (HB7.out.trans (b8.mono HB7.out.size))
            clear b8 HB7
            go_wp2_with fail
            refine (among_any _ _ _ ss C _ (HS.out.below HB8.out)).mono ?_
            rintro e w9 ⟨rfl, rfl⟩
            have HI := Lib.hid (isIn_used C ss)
            cases hb : isIn C ss with
            | true =>
              have hno2 : ∀ j, j < k + 1 + 1 → cand s j ∈ used ss := fun j hj => by
                by_cases e : j = k + 1
                · rw [e, ← HC.out]
                  exact (isIn_iff _ _).1 (by rw [HI.out, hb]; rfl)
                · exact HNO.out j (by omega)
              have hk2 := fresh_bound hno2
              rw [HS.out.1] at hk2
              have HNO2 := Lib.hid hno2
              clear hb hno2
              go_wp2_with fail
              go_roundw
              case rel => exact ⟨k + 1, by go_num, HNO2.out, HB8.out⟩
              case measure => simp [intOf]; omega
            | false =>
              have hmem : C ∉ used ss := (isIn_not _ _).1 (by rw [HI.out, hb, HC.out, isIn_cand0, isIn_cand1]; rfl)
              clear hb
              go_wp2_with fail
              go_ret
              exact ⟨C, rfl, ⟨k + 1, HC.out, hmem, HNO.out⟩, HCs.out, HB8.out⟩
        · have HA : s.data.toList = s.data.toList.take 24 := by
            have h1 : s.data.toList.length = s.size := by simp
            rw [List.take_of_length_le (by omega)]
          have HA := Lib.hid HA
          have hAs : s.size ≤ 24 := by omega
          have hd : decide ((24 : Int) < (s.size : Int)) = false := by simp; omega
          go_wp2_with fail
          go_loopw [6] (fun i wr => ∃ k : Nat, i = .int .i64 ((k + 1 : Nat) : Int) ∧ (∀ j, j < k + 1 → cand s j ∈ used ss) ∧ Below w.heap.size w wr)
            (fun i _ => len + 2 - (intOf i).toNat)
          case atStart => exact ⟨0, rfl, fun j hj => by obtain rfl : j = 0 := (by omega); exact HM.out, BZ.out⟩
          case round =>
            obtain ⟨k, rfl, hno, hnx⟩ := hrel
            have hk := fresh_bound hno
            rw [HS.out.1] at hk
            have HNO := Lib.hid hno
            have HB := Lib.hid hnx
            clear hno hnx
            obtain ⟨A1, hA1⟩ : ∃ A1, s ++ ⟨#[95]⟩ = A1 := ⟨_, rfl⟩
            obtain ⟨D, hD⟩ : ∃ D : ByteArray, D = ⟨(Lib.decDigits (k + 1)).toArray⟩ := ⟨_, rfl⟩
            obtain ⟨C, hC⟩ : ∃ C, A1 ++ D = C := ⟨_, rfl⟩
            have hCc := cand_add s s A1 D C k HA.out hA1 hD hC
            have hA1s : A1.size ≤ 25 := by rw [← hA1, ByteArray.size_append]; show ByteArray.size s + 1 ≤ 25; omega
            have hCs0 : C.size ≤ maxLen := by rw [hCc]; exact cand_size s (k + 1) (by omega) HZ.out
            have HCs := Lib.hid hCs0
            have hCs : C.size ≤ 9223372036854775807 := hCs0
            have add1 := add_run s ⟨#[95]⟩ A1 hA1 (by omega)
            have add2 := add_run A1 D C hC (by omega)
            have HD := Lib.hid hD
            have HC := Lib.hid hCc
            clear hA1 hD hC hCc hCs0
            go_wp2_with fail
            refine (refDigits_pos ((k + 1 : Nat) : Int) _ (by omega) (by omega)).mono ?_
            rw [itoa_nat, ← HD.out]
            rintro e w6 ⟨rfl, nd, rfl⟩
            have HB6 := Lib.hid (below_drewN HB.out nd)
            generalize wr.drewN nd = w6 at HB6 ⊢
            clear HB
            go_wp2_with fail
            refine (refIs_any 0 C _).mono ?_
            rw [show isIn C (wordsOf 0) = false by rw [HC.out]; exact isIn_cand0 s k]
            rintro e w7 ⟨rfl, b7⟩
            have HB7 := Lib.hid (HB6.out.trans (b7.mono HB6.out.size))
            clear b7 HB6
            go_wp2_with fail
            refine (refIs_any 1 C _).mono ?_
            rw [show isIn C (wordsOf 1) = false by rw [HC.out]; exact isIn_cand1 s k]
            rintro e w8 ⟨rfl, b8⟩
            have HB8 := Lib.hid (HB7.out.trans (b8.mono HB7.out.size))
            clear b8 HB7
            go_wp2_with fail
            refine (among_any _ _ _ ss C _ (HS.out.below HB8.out)).mono ?_
            rintro e w9 ⟨rfl, rfl⟩
            have HI := Lib.hid (isIn_used C ss)
            cases hb : isIn C ss with
            | true =>
              have hno2 : ∀ j, j < k + 1 + 1 → cand s j ∈ used ss := fun j hj => by
                by_cases e : j = k + 1
                · rw [e, ← HC.out]
                  exact (isIn_iff _ _).1 (by rw [HI.out, hb]; rfl)
                · exact HNO.out j (by omega)
              have hk2 := fresh_bound hno2
              rw [HS.out.1] at hk2
              have HNO2 := Lib.hid hno2
              clear hb hno2
              go_wp2_with fail
              go_roundw
              case rel => exact ⟨k + 1, by go_num, HNO2.out, HB8.out⟩
              case measure => simp [intOf]; omega
            | false =>
              have hmem : C ∉ used ss := (isIn_not _ _).1 (by rw [HI.out, hb, HC.out, isIn_cand0, isIn_cand1]; rfl)
              clear hb
              go_wp2_with fail
              go_ret
              exact ⟨C, rfl, ⟨k + 1, HC.out, hmem, HNO.out⟩, HCs.out, HB8.out⟩
      | false =>
        have hmem : s ∉ used ss := (isIn_not _ _).1 (by rw [HU.out, h0, h1, h2]; rfl)
        clear h0 h1 h2 HU
        go_wp2_with fail
        go_ret
        exact ⟨s, rfl, IsFresh.self hmem, HZ.out, B2.out⟩
end Go.Proofs.YthfldflilddpfaaDoor
