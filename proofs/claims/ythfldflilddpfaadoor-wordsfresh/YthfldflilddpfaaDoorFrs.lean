/-
  words.Fresh, walked.
-/
import Derived.Test.YthfldflilddpfaaDoorSet
import Derived.Test.YthfldflilddpfaaDoorDig
namespace Go.Proofs.YthfldflilddpfaaDoor
open Go.RowKit

theorem used_flat (ss : List ByteArray) : [ss, wordsOf 0, wordsOf 1].flatten = used ss := by simp [used]
theorem used_len (ss : List ByteArray) : (used ss).length ≤ ss.length + 68 := by
  have h0 := words_len 0
  have h1 := words_len 1
  unfold used
  rw [List.length_append, List.length_append]
  omega
theorem lists3 {w : World} {a a0 a1 : Option Addr} {n c n0 c0 n1 c1 : Nat} {ss s0 s1 : List ByteArray} (h : IsStrs w a n c ss) (h0 : IsStrs w a0 n0 c0 s0) (h1 : IsStrs w a1 n1 c1 s1) :
    IsLists (w.alloc (.cells #[.slice a n c, .slice a0 n0 c0, .slice a1 n1 c1] 22)) w.heap.size 0 [ss, s0, s1] := by
  have hb : Below w.heap.size w (w.alloc (.cells #[.slice a n c, .slice a0 n0 c0, .slice a1 n1 c1] 22)) := (Below.refl _ _).alloc (Nat.le_refl _) _
  have hg := heap_new w (.cells #[.slice a n c, .slice a0 n0 c0, .slice a1 n1 c1] 22)
  generalize hw : w.alloc (.cells #[.slice a n c, .slice a0 n0 c0, .slice a1 n1 c1] 22) = w1 at *
  refine ⟨heap_lt hg, fun j x hx => ?_⟩
  match j, hx with
  | 0, hx => simp at hx; subst hx; exact ⟨a, n, c, by simp [World.cell?, hg], h.below hb⟩
  | 1, hx => simp at hx; subst hx; exact ⟨a0, n0, c0, by simp [World.cell?, hg], h0.below hb⟩
  | 2, hx => simp at hx; subst hx; exact ⟨a1, n1, c1, by simp [World.cell?, hg], h1.below hb⟩
theorem ahead_of (s : ByteArray) (m : Nat) (h : m = min s.size 24) : (s.extract 0 m).data.toList = s.data.toList.take 24 := by
  have hsz : s.data.toList.length = s.size := by simp
  rw [ByteArray.data_extract, Array.toList_extract]
  subst h
  simp only [List.extract_eq_take_drop, List.drop_zero, Nat.sub_zero]
  by_cases c : s.size ≤ 24
  · rw [List.take_of_length_le (by omega), List.take_of_length_le (by omega)]
  · congr 1; omega
theorem cand_add (s A A1 D C : ByteArray) (k : Nat) (hA : A.data.toList = s.data.toList.take 24) (h1 : A ++ ⟨#[95]⟩ = A1) (hD : D = ⟨(Lib.decDigits (k + 1)).toArray⟩) (hC : A1 ++ D = C) : C = cand s (k + 1) := by
  subst hC
  subst h1
  subst hD
  apply ByteArray.ext
  apply Array.ext'
  rw [cand_succ]
  simp [ByteArray.data_append, hA]
theorem add_run (a b c : ByteArray) (h : a ++ b = c) (hs : c.size ≤ 9223372036854775807) : ∀ w : World, (Op.stringOp .add a b).run Tryd.prog w = .ok (.string c) w := fun w => by
  rw [run_string_add_sum w _ _ (by rw [← h, ByteArray.size_append] at hs; exact hs), h]

set_option maxHeartbeats 1600000 in
theorem fresh_any (s : ByteArray) (a : Option Addr) (len cap : Nat) (ss : List ByteArray) (w : World) (hs : s.size ≤ maxLen) (hS : IsStrs w a len cap ss) (hl : len ≤ 61) :
    Calls Tryd.prog 17 #[.string s, .slice a len cap] w fun e w' => ∃ t, e = .returned (.string t) ∧ IsFresh s ss t ∧ t.size ≤ maxLen ∧ Below w.heap.size w w' := by
  have HS := Lib.hid hS
  have HZ := Lib.hid hs
  have hsz : s.size ≤ 9223372036854775807 := by unfold maxLen at hs; omega
  clear hS hs
  obtain ⟨m, hm, hm2⟩ : ∃ m : Nat, min (s.size : Int) 24 = (m : Int) ∧ m = min s.size 24 := ⟨min s.size 24, by omega, rfl⟩
  have hms : m ≤ s.size := by omega
  have HM := Lib.hid hm2
  clear hm2
  go_enter Tryd.func17, Tryd.ntmps17
  go_wp2_with fail
  refine (all_any 0 _).mono ?_
  rintro e w1 ⟨v0, rfl, o0, b0⟩
  obtain ⟨a0, c0, rfl, S0⟩ := o0.strs (words_ok 0)
  have H0 := Lib.hid S0
  have B0 := Lib.hid b0
  clear S0 b0 o0
  go_wp2_with fail
  refine (all_any 1 _).mono ?_
  rintro e w2 ⟨v1, rfl, o1, b1⟩
  obtain ⟨a1, c1, rfl, S1⟩ := o1.strs (words_ok 1)
  have H1 := Lib.hid S1
  have H0' := Lib.hid (H0.out.below b1)
  have B1 := Lib.hid (B0.out.trans (b1.mono B0.out.size))
  clear S1 b1 o1 H0 B0
  go_wp2_with fail
  refine (setOf_any w2.heap.size 0 3 [ss, wordsOf 0, wordsOf 1] _ (lists3 (HS.out.below B1.out) H0'.out H1.out) (by simp) (by rw [used_flat]; have := used_len ss; have := HS.out.1; omega)).mono ?_
  rintro e w3 ⟨rfl, o3, b3⟩
  rw [used_flat] at o3
  have e3 : (w2.alloc (.cells #[.slice a len cap, .slice a0 (wordsOf 0).length c0, .slice a1 (wordsOf 1).length c1] 22)).heap.size = w2.heap.size + 1 := by simp
  rw [e3] at o3 b3
  have O3 := Lib.hid o3
  have B3 := Lib.hid ((B1.out.alloc B1.out.size (.cells #[.slice a len cap, .slice a0 (wordsOf 0).length c0, .slice a1 (wordsOf 1).length c1] 22)).trans (b3.mono (Nat.le_succ_of_le B1.out.size)))
  clear o3 b3 e3 H0' H1
  go_wp2_with fail
  have HA := Lib.hid (ahead_of s m HM.out)
  generalize s.extract 0 m = A at HA ⊢
  have hAs : A.size ≤ 24 := by
    have h1 : A.data.toList.length = A.size := by simp
    rw [← h1, HA.out]
    exact List.length_take_le _ _
  generalize hN : (used ss).length = N at O3
  clear hN
  have HW := Lib.hid B1.out.size
  generalize w2.heap.size = q at O3 HW ⊢
  clear B1
  go_loopw [7, 8] (fun v i wr => ∃ (k : Nat) (nm : ByteArray), v = .string nm ∧ i = .int .i64 ((k + 1 : Nat) : Int) ∧ nm = cand s k ∧ k ≤ len + 1 ∧ (∀ j, j < k → cand s j ∈ used ss) ∧ SetAt wr (q + 1) N (setD (used ss)) ∧ Below w.heap.size w wr)
    (fun _ i _ => len + 3 - (intOf i).toNat)
  case atStart => exact ⟨0, s, rfl, rfl, rfl, Nat.zero_le _, fun j hj => by omega, O3.out, B3.out⟩
  case round =>
    obtain ⟨k, nm, rfl, rfl, hnm, hk, hno, hown, hnx⟩ := hrel
    have HNM := Lib.hid hnm
    have HNO := Lib.hid hno
    have HO := Lib.hid hown
    have HB := Lib.hid hnx
    clear hnm hno hown hnx
    have hnz : nm.size ≤ maxLen := by rw [HNM.out]; exact cand_size s k (by omega) HZ.out
    go_wp2_with fail
    refine (has_any (q + 1) N _ nm _ hnz HO.out).mono ?_
    rintro e w5 ⟨rfl, rfl⟩
    have HB2 := Lib.hid (HB.out.alloc HB.out.size (.cells #[] 47))
    have HO2 := Lib.hid (World.ownsMap.alloc HO.out (.cells #[] 47))
    generalize wr.alloc (.cells #[] 47) = w5 at HB2 HO2 ⊢
    rw [has_setD]
    cases hb : isIn nm (used ss) with
    | true =>
      have hmem := (isIn_iff nm (used ss)).1 hb
      have hno2 : ∀ j, j < k + 1 → cand s j ∈ used ss := fun j hj => by
        by_cases e : j = k
        · rw [e, ← HNM.out]; exact hmem
        · exact HNO.out j (by omega)
      have hk2 := fresh_bound hno2
      rw [HS.out.1] at hk2
      have HNO2 := Lib.hid hno2
      clear hmem hb hno2
      obtain ⟨A1, hA1⟩ : ∃ A1, A ++ ⟨#[95]⟩ = A1 := ⟨_, rfl⟩
      obtain ⟨D, hD⟩ : ∃ D : ByteArray, D = ⟨(Lib.decDigits (k + 1)).toArray⟩ := ⟨_, rfl⟩
      obtain ⟨C, hC⟩ : ∃ C, A1 ++ D = C := ⟨_, rfl⟩
      have hCc := cand_add s A A1 D C k HA.out hA1 hD hC
      have hA1s : A1.size ≤ 25 := by rw [← hA1, ByteArray.size_append]; show A.size + 1 ≤ 25; omega
      have hCs : C.size ≤ maxLen := by rw [hCc]; exact cand_size s (k + 1) (by omega) HZ.out
      unfold maxLen at hCs
      have add1 := add_run A ⟨#[95]⟩ A1 hA1 (by omega)
      have add2 := add_run A1 D C hC (by omega)
      have HD := Lib.hid hD
      have HC := Lib.hid hCc
      clear hA1 hD hC hCc
      go_wp2_with fail
      refine (Tryd.strconv_Itoa_small (k + 1) (by omega) _).mono ?_
      rintro e w6 ⟨rfl, rfl⟩
      rw [← HD.out]
      go_wp2_with fail
      go_roundw
      case rel => exact ⟨k + 1, C, rfl, by go_num, HC.out, by omega, HNO2.out, HO2.out, HB2.out⟩
      case measure => simp [intOf]; omega
    | false =>
      have hmem := (isIn_not nm (used ss)).1 hb
      clear hb
      go_wp2_with fail
      go_ret
      exact ⟨nm, rfl, ⟨k, HNM.out, hmem, HNO.out⟩, hnz, HB2.out⟩
end Go.Proofs.YthfldflilddpfaaDoor
