/-
  How long the text of a right expression is at most.
-/
import Derived.Test.YtpcldpnaljheoaaGreatDoorMou
import Derived.Test.YtpcldpnaljheoaaGreatDoorPq9
namespace Go.Proofs.YtpcldpnaljheoaaGreatDoor
open Go.RowKit Go.Deep

theorem dd_le : ∀ (k n : Nat), 1 ≤ k → n < 10 ^ k → (Lib.decDigits n).length ≤ k
  | 0, _, h, _ => by omega
  | 1, n, _, h => by rw [Lib.decDigits_one (by omega)]; simp
  | k + 2, n, _, h => by
    by_cases h1 : n < 10
    · rw [Lib.decDigits_one h1]; simp
    · rw [Lib.decDigits, dif_neg h1]
      have := dd_le (k + 1) (n / 10) (by omega) (by rw [Nat.pow_succ] at h; omega)
      simp
      omega
theorem itoa_le (n : Int) (h0 : 0 ≤ n) (h1 : n ≤ 9223372036854775807) : (Lib.itoa n).length ≤ 20 := by
  unfold Lib.itoa
  rw [if_neg (by omega)]
  exact dd_le 20 _ (by omega) (by omega)
theorem optP_le (asked : Nat) (t : List D → List UInt8) (y : List D) : (optP asked t y).length ≤ (t y).length + 2 := by
  unfold optP
  split
  · omega
  · simp
theorem jnL_len (t : List D → List UInt8) : ∀ (l : List (List D)) (b : Bool), (∀ x ∈ l, (t x).length + 10 ≤ 30 * mRow x) → (jnL t b l).length ≤ 30 * mRows l
  | [], _, _ => by simp [jnL]
  | x :: r, b, h => by
    have h1 := h x (List.mem_cons_self ..)
    have h2 := jnL_len t r false fun y hy => h y (List.mem_cons_of_mem _ hy)
    unfold jnL
    simp only [mRows, List.length_append]
    have h3 : (if b = true then ([] : List UInt8) else [44, 32]).length ≤ 2 := by split <;> simp
    omega
theorem mRow_E (op n : Int) (nm fd : ByteArray) (l : List (List D)) : mRow [.int op, .int n, .str nm, .str fd, .row l] = nm.size + fd.size + mRows l + 5 := by
  simp only [mRow, mD]
  omega
theorem ba_len' (x : ByteArray) : x.data.toList.length = x.size := by rw [Array.length_toList]; rfl
theorem prT_len : ∀ (k : Nat) (x : List D), okE 0 k x = true → ShE x → (prT k x).length + 10 ≤ 30 * mRow x
  | 0, x, h, _ => by unfold okE at h; cases h
  | k + 1, x, h, hs => by
    cases hs with
    | mk op n nm fd l hks =>
      have R := okE_right h
      have ih : ∀ y ∈ l, (prT k y).length + 10 ≤ 30 * mRow y := fun y hy => prT_len k y (R.all y hy) (hks y hy)
      rw [mRow_E]
      have hop : op = 1 ∨ op = 2 ∨ op = 3 ∨ op = 4 ∨ op = 5 ∨ op = 6 ∨ op = 7 ∨ (op = 8 ∨ op = 9) ∨ (10 ≤ op ∧ op ≤ 24) := by have := R.lo; have := R.hi; omega
      have hnm := ba_len' nm
      have hfd := ba_len' fd
      unfold prT
      rcases hop with e | e | e | e | e | e | e | e | e
      · subst e
        rw [if_pos rfl]
        have := itoa_le n (R.n1 rfl).1 (R.n1 rfl).2
        omega
      · subst e
        rw [if_neg (by omega), if_pos rfl]
        have : (truP n).data.toList.length ≤ 5 := by unfold truP; split <;> decide
        omega
      · subst e
        rw [if_neg (by omega), if_neg (by omega), if_pos rfl]
        have : (charP n).length ≤ 4 := by
          have := itoa_small n (R.n3 rfl).1 (R.n3 rfl).2
          unfold charP
          split
          · simp
          · split
            · simp
            · simp only [List.length_cons]; omega
        omega
      · subst e
        rw [if_neg (by omega), if_neg (by omega), if_neg (by omega), if_pos rfl]
        omega
      · obtain ⟨y, rfl⟩ := R.l5 (.inl e)
        subst e
        rw [if_neg (by omega), if_neg (by omega), if_neg (by omega), if_neg (by omega), if_pos rfl]
        have := ih y (List.mem_singleton.2 rfl)
        have h2 : ([y] : List (List D)).headD [] = y := rfl
        rw [h2]
        unfold idxP
        simp only [mRows, List.length_append, List.length_cons, List.length_nil]
        omega
      · subst e
        rw [if_neg (by omega), if_neg (by omega), if_neg (by omega), if_neg (by omega), if_neg (by omega), if_pos rfl]
        simp only [List.length_append, List.length_cons]
        omega
      · subst e
        rw [if_neg (by omega), if_neg (by omega), if_neg (by omega), if_neg (by omega), if_neg (by omega), if_neg (by omega), if_pos rfl]
        have := jnL_len (prT k) l true ih
        unfold calP
        simp only [List.length_append, List.length_cons, List.length_nil]
        omega
      · obtain ⟨y, rfl⟩ := R.l5 (.inr e)
        rw [if_neg (by omega), if_neg (by omega), if_neg (by omega), if_neg (by omega), if_neg (by omega), if_neg (by omega), if_neg (by omega), if_pos e]
        have := ih y (List.mem_singleton.2 rfl)
        have h2 : ([y] : List (List D)).headD [] = y := rfl
        have h3 := optP_le (sgnP op).rt (prT k) y
        have h4 := sgn_size op
        have h5 := ba_len' (sgnP op).t
        rw [h2]
        unfold ahdP
        simp only [mRows, List.length_append]
        omega
      · obtain ⟨y, z, rfl⟩ := R.l10 e.1
        rw [if_neg (by omega), if_neg (by omega), if_neg (by omega), if_neg (by omega), if_neg (by omega), if_neg (by omega), if_neg (by omega), if_neg (by omega)]
        have h1 := ih y (by simp)
        have h2 := ih z (by simp)
        have h3 := optP_le (sgnP op).lf (prT k) y
        have h4 := optP_le (sgnP op).rt (prT k) z
        have h5 := sgn_size op
        have h6 := ba_len' (sgnP op).t
        have h7 : ([y, z] : List (List D)).headD [] = y := rfl
        have h8 : (([y, z] : List (List D)).drop 1).headD [] = z := rfl
        rw [h7, h8]
        unfold btwP
        simp only [mRows, List.length_append, List.length_cons]
        omega
end Go.Proofs.YtpcldpnaljheoaaGreatDoor
