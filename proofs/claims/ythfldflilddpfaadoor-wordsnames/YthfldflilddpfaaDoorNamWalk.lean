/-
  WordsNames and WordsFreshNames, walked.
-/
import Derived.Test.YthfldflilddpfaaDoorAwk
import Derived.Test.YthfldflilddpfaaDoorChk
namespace Go.Proofs.YthfldflilddpfaaDoor
open Go.RowKit

set_option maxHeartbeats 800000 in
theorem wordsNames_walk (s : ByteArray) (w : World) (hs : s.size ≤ maxLen) : Calls Tryd.prog 4 #[.string s] w fun e w' => e = .returned (.bool true) ∧ Below w.heap.size w w' := by
  by_cases h : 5000 < s.size
  · have hd : decide ((5000 : Int) < (s.size : Int)) = true := by simp; omega
    clear hs
    go_enter Tryd.func4, Tryd.ntmps4
    go_wp2_with fail
    go_ret
    exact ⟨rfl, Below.refl _ _⟩
  · have hd : decide ((5000 : Int) < (s.size : Int)) = false := by simp; omega
    have HZ := Lib.hid hs
    clear hs h
    go_enter Tryd.func4, Tryd.ntmps4
    go_wp2_with fail
    refine (check_any s _ HZ.out).mono ?_
    rintro e w1 ⟨rfl, rfl⟩
    go_wp2_with fail
    refine (refCheck_any s _ HZ.out).mono ?_
    rintro e w2 ⟨rfl, rfl⟩
    have hb : (((chk s : Nat) : Int) == ((chk s : Nat) : Int)) = true := by simp
    generalize chk s = c at hb ⊢
    go_wp2_with fail
    refine (awake_any _).mono ?_
    rintro e w3 ⟨rfl, b3⟩
    have B3 := Lib.hid b3
    clear b3
    go_wp2_with fail
    go_ret
    exact ⟨rfl, B3.out⟩

theorem bt_app_lt {l m : List UInt8} {j : Nat} (h : j < l.length) : (l ++ m).getD j 0 = l.getD j 0 := by
  rw [List.getD_eq_getElem?_getD, List.getD_eq_getElem?_getD, List.getElem?_append_left h]
theorem dd_goOn (u : Nat) : ∀ c ∈ Lib.decDigits u, goOn c = true := by
  induction u using Nat.strongRecOn with
  | ind u ih =>
    have one : ∀ d : Nat, d < 10 → goOn (UInt8.ofNat (48 + d)) = true := fun d hd => by
      have : ∀ d : Fin 10, goOn (UInt8.ofNat (48 + d.1)) = true := by decide
      exact this ⟨d, hd⟩
    intro c hc
    by_cases h : u < 10
    · rw [Lib.decDigits_one h] at hc
      rw [List.mem_singleton.1 hc]
      exact one u h
    · rw [dd_step h] at hc
      rcases List.mem_append.1 hc with g | g
      · exact ih (u / 10) (by omega) c g
      · rw [List.mem_singleton.1 g]
        exact one (u % 10) (by omega)
theorem chk_ok (s : ByteArray) : chk s = 0 ↔ spelt s = true ∧ s.size ≤ 32 := by
  unfold chk
  cases spelt s with
  | false => simp
  | true =>
    by_cases h : 32 < s.size
    · simp [h]
    · simp [h]; omega
theorem chk_cand (s : ByteArray) (k : Nat) (hk : k < 100) (h : chk s = 0) : chk (cand s k) = 0 := by
  cases k with
  | zero => exact h
  | succ n =>
    rw [chk_ok] at h ⊢
    obtain ⟨h1, h2⟩ := h
    rw [spelt_iff] at h1 ⊢
    have hl : s.data.toList.length = s.size := by simp
    have hd : (Lib.decDigits (n + 1)).length ≤ 2 := by
      by_cases c : n + 1 < 10
      · rw [Lib.decDigits_one c]; simp
      · rw [Lib.decDigits_two c hk]; simp
    have ht : (s.data.toList.take 24).length ≤ 24 := List.length_take_le _ _
    have ht1 : 0 < (s.data.toList.take 24).length := by rw [List.length_take, hl]; omega
    have hsz : (cand s (n + 1)).size = (s.data.toList.take 24 ++ 95 :: Lib.decDigits (n + 1)).length := by
      rw [cand_succ]
      show (s.data.toList.take 24 ++ 95 :: Lib.decDigits (n + 1)).toArray.size = _
      rw [List.size_toArray]
    have hb : ∀ j, bt (cand s (n + 1)) j = (s.data.toList.take 24 ++ 95 :: Lib.decDigits (n + 1)).getD j 0 := fun j => by
      rw [cand_succ]; rfl
    rw [hsz]
    refine ⟨⟨by simp; omega, fun j hj => ?_⟩, by rw [List.length_append, List.length_cons]; omega⟩
    rw [hb]
    by_cases c : j < (s.data.toList.take 24).length
    · rw [bt_app_lt c]
      have e : (s.data.toList.take 24).getD j 0 = bt s j := by
        unfold bt
        rw [List.getD_eq_getElem?_getD, List.getD_eq_getElem?_getD, List.getElem?_take_of_lt (by omega)]
      rw [e]
      exact h1.2 j (by rw [List.length_take, hl] at c; omega)
    · have hm : (s.data.toList.take 24 ++ 95 :: Lib.decDigits (n + 1)).getD j 0 ∈ 95 :: Lib.decDigits (n + 1) := by
        rw [List.getD_eq_getElem?_getD, List.getElem?_append_right (by omega)]
        rw [List.length_append] at hj
        rw [List.getElem?_eq_getElem (by omega)]
        exact List.getElem_mem _
      have hg : goOn ((s.data.toList.take 24 ++ 95 :: Lib.decDigits (n + 1)).getD j 0) = true := by
        rcases List.mem_cons.1 hm with g | g
        · rw [g]; decide
        · exact dd_goOn _ _ g
      unfold letter
      rw [hg]
      have hj0 : j ≠ 0 := by omega
      simp [hj0]
theorem chk_fresh {s t : ByteArray} {ss : List ByteArray} (h : IsFresh s ss t) (hl : ss.length ≤ 61) (hc : chk s = 0) : chk t = 0 := by
  obtain ⟨k, rfl, _, h2⟩ := h
  have := fresh_bound h2
  exact chk_cand s k (by omega) hc

set_option maxHeartbeats 800000 in
theorem wordsFreshNames_walk (s : ByteArray) (a : Option Addr) (len cap : Nat) (ss : List ByteArray) (w : World) (hs : s.size ≤ maxLen) (hS : IsStrs w a len cap ss) :
    Calls Tryd.prog 6 #[.string s, .slice a len cap] w fun e w' => e = .returned (.bool true) ∧ Below w.heap.size w w' := by
  have HS := Lib.hid hS
  have HZ := Lib.hid hs
  have hcap := hS.len_le
  clear hs hS
  by_cases h : 60 < len
  · have hd : decide ((60 : Int) < (len : Int)) = true := by simp; omega
    go_enter Tryd.func6, Tryd.ntmps6
    go_wp2_with fail
    refine (awake_any _).mono ?_
    rintro e w3 ⟨rfl, b3⟩
    have B3 := Lib.hid b3
    clear b3
    go_wp2_with fail
    go_ret
    exact ⟨rfl, B3.out⟩
  · have hd : decide ((60 : Int) < (len : Int)) = false := by simp; omega
    go_enter Tryd.func6, Tryd.ntmps6
    go_wp2_with fail
    refine (check_any s _ HZ.out).mono ?_
    rintro e w1 ⟨rfl, rfl⟩
    by_cases hc : chk s = 0
    · rw [hc]
      have HC := Lib.hid hc
      clear hc
      go_wp2_with fail
      refine (fresh_any s a len cap ss _ HZ.out HS.out (by omega)).mono ?_
      rintro e w2 ⟨t, rfl, ht, htz, b2⟩
      have HT := Lib.hid (chk_fresh ht (by have := HS.out.1; omega) HC.out)
      have B2 := Lib.hid b2
      clear ht b2
      go_wp2_with fail
      refine (check_any t _ htz).mono ?_
      rw [HT.out]
      rintro e w3 ⟨rfl, rfl⟩
      go_wp2_with fail
      refine (awake_any _).mono ?_
      rintro e w4 ⟨rfl, b4⟩
      have B4 := Lib.hid (B2.out.trans (b4.mono B2.out.size))
      clear b4
      go_wp2_with fail
      go_ret
      exact ⟨rfl, B4.out⟩
    · have hb : (((chk s : Nat) : Int) == 0) = false := int_beq_no (m := 0) hc
      clear hc
      generalize chk s = c at hb ⊢
      go_wp2_with fail
      refine (awake_any _).mono ?_
      rintro e w4 ⟨rfl, b4⟩
      have B4 := Lib.hid b4
      clear b4
      go_wp2_with fail
      go_ret
      exact ⟨rfl, B4.out⟩
end Go.Proofs.YthfldflilddpfaaDoor
