/-
  What digits are worth, plainly.
-/
import Derived.Test.YtjdmaindoohmkaaDoorDig
namespace Go.Proofs.YtjdmaindoohmkaaDoor
open Go.RowKit

def valL (l : List UInt8) : Nat := l.foldl (fun n c => n * 10 + (c.toNat - 48)) 0
theorem valTo_eq (s : ByteArray) (k : Nat) (h : k ≤ s.size) : valTo s k = valL (s.data.toList.take k) := by
  induction k with
  | zero => simp [valTo, valL]
  | succ k ih =>
    rw [take_bt s k (by omega)]
    unfold valL at *
    rw [List.foldl_append, ← ih (by omega)]
    rfl
theorem valTo_all (l : List UInt8) : valTo ⟨l.toArray⟩ (ByteArray.mk l.toArray).size = valL l := by
  rw [valTo_eq _ _ (Nat.le_refl _)]
  have : (ByteArray.mk l.toArray).size = l.length := by show l.toArray.size = _; simp
  rw [this]
  simp
theorem byte_dig (d : Nat) (h : d < 10) : (UInt8.ofNat (48 + d)).toNat = 48 + d := by
  rw [UInt8.toNat_ofNat']; omega
theorem valL_dd (u : Nat) : valL (Lib.decDigits u) = u := by
  induction u using Nat.strongRecOn with
  | ind u ih =>
    by_cases h : u < 10
    · rw [Lib.decDigits_one h]
      show 0 * 10 + ((UInt8.ofNat (48 + u)).toNat - 48) = u
      rw [byte_dig u h]; omega
    · rw [Lib.decDigits, dif_neg h]
      have := ih (u / 10) (by omega)
      unfold valL at *
      rw [List.foldl_append, this]
      show u / 10 * 10 + ((UInt8.ofNat (48 + u % 10)).toNat - 48) = u
      rw [byte_dig (u % 10) (by omega)]; omega
theorem dd_all (u : Nat) : ∀ c ∈ Lib.decDigits u, 48 ≤ c.toNat ∧ c.toNat ≤ 57 := by
  induction u using Nat.strongRecOn with
  | ind u ih =>
    by_cases h : u < 10
    · rw [Lib.decDigits_one h]
      intro c hc
      simp only [List.mem_singleton] at hc
      subst hc
      rw [byte_dig u h]; omega
    · rw [Lib.decDigits, dif_neg h]
      intro c hc
      rcases List.mem_append.1 hc with hc | hc
      · exact ih (u / 10) (by omega) c hc
      · simp only [List.mem_singleton] at hc
        subst hc
        rw [byte_dig (u % 10) (by omega)]; omega
theorem dd_pos (u : Nat) : 0 < (Lib.decDigits u).length := by
  rw [Lib.decDigits]
  split <;> simp
theorem AD_of (l : List UInt8) (h0 : 0 < l.length) (h : ∀ c ∈ l, 48 ≤ c.toNat ∧ c.toNat ≤ 57) : AD ⟨l.toArray⟩ := by
  refine ⟨by show 0 < l.toArray.size; simpa using h0, fun j hj => ?_⟩
  have hj' : j < l.length := by
    have : j < l.toArray.size := hj
    simpa using this
  unfold Dig bt
  have e : (ByteArray.mk l.toArray).data.toList.getD j 0 = l[j] := by
    show l.toArray.toList.getD j 0 = _
    rw [List.getD_eq_getElem?_getD, List.getElem?_eq_getElem (by simpa using hj')]
    rfl
  rw [e]
  exact h _ (List.getElem_mem _)
theorem AD_itoa (n : Int) (h : 0 ≤ n) : AD ⟨(Lib.itoa n).toArray⟩ := by
  have e : Lib.itoa n = Lib.decDigits n.toNat := by unfold Lib.itoa; rw [if_neg (by omega)]
  rw [e]
  exact AD_of _ (dd_pos _) (dd_all _)
theorem val_itoa (n : Int) (h : 0 ≤ n) : (valTo ⟨(Lib.itoa n).toArray⟩ (ByteArray.mk (Lib.itoa n).toArray).size : Int) = n := by
  have e : Lib.itoa n = Lib.decDigits n.toNat := by unfold Lib.itoa; rw [if_neg (by omega)]
  rw [e, valTo_all, valL_dd]
  omega
theorem notAD_itoa (n : Int) (h : n < 0) : ¬ AD ⟨(Lib.itoa n).toArray⟩ := by
  have e : Lib.itoa n = 45 :: Lib.decDigits n.natAbs := by unfold Lib.itoa; rw [if_pos h]
  rw [e]
  intro hA
  have := (hA.2 0 hA.1).1
  revert this
  unfold bt
  simp
theorem itoa_len (n : Int) (h0 : -9223372036854775808 ≤ n) (h1 : n ≤ 9223372036854775807) : (ByteArray.mk (Lib.itoa n).toArray).size ≤ maxLen := by
  show (Lib.itoa n).toArray.size ≤ maxLen
  rw [List.size_toArray]
  unfold Lib.itoa maxLen
  split
  · simp only [List.length_cons]
    by_cases h10 : 10 ≤ n.natAbs
    · have := dd_len2 n.natAbs h10; omega
    · have := dd_len n.natAbs; omega
  · by_cases h10 : 10 ≤ n.toNat
    · have := dd_len2 n.toNat h10; omega
    · have := dd_len n.toNat; omega
end Go.Proofs.YtjdmaindoohmkaaDoor
