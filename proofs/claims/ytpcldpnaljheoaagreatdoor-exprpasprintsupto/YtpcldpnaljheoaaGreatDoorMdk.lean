/-
  What is right is not too deep.
-/
import Derived.Test.YtpcldpnaljheoaaGreatDoorRdp
namespace Go.Proofs.YtpcldpnaljheoaaGreatDoor
open Go.RowKit Go.Deep Go.Maps

theorem fold_le' {f : List D → Nat} {B : Nat} : ∀ (l : List (List D)) (a : Nat), a ≤ B → (∀ x ∈ l, isUp x = false → f x ≤ B) → l.foldl (depF f) a ≤ B
  | [], _, h, _ => h
  | y :: r, a, h, hf => fold_le' r _ (by
    unfold depF
    split
    · exact h
    · next hu => exact Nat.max_le.2 ⟨h, hf y (by simp) (by simpa using hu)⟩) (fun x hx => hf x (by simp [hx]))
theorem okAll_mem {l : List (List D)} {f : List D → Bool} (h : okAll l f = true) : ∀ x ∈ l, f x = true := by
  unfold okAll at h
  rw [Bool.and_eq_true] at h
  exact List.all_eq_true.1 h.2
theorem upD_isUp {d : Int} {x : List D} (h : upD d x = true) : isUp x = true := by
  unfold upD at h
  split at h
  · unfold upE at h
    simp only [Bool.and_eq_true] at h
    unfold isUp
    exact h.1
  · cases h
theorem okE_deep (d : Int) : ∀ (k m : Nat) (x : List D), okE d k x = true → dep m x ≤ k
  | 0, _, _, h => by simp [okE] at h
  | k + 1, 0, _, _ => by simp [dep]
  | k + 1, m + 1, x, h => by
    show depL (dep m) x ≤ k + 1
    unfold depL
    split
    · next op n nm fd l =>
      refine Nat.succ_le_succ (fold_le' l 0 (Nat.zero_le _) fun y hy hu => ?_)
      have ho : okE d k y = true := by
        unfold okE at h
        split at h
        · unfold callE at h
          simp only [Bool.and_eq_true] at h
          have h1 := okAll_mem h.2.2.2.2.1
          have h2 := okAll_mem h.2.2.2.2.2
          rw [← List.take_append_drop (firstU d l) l] at hy
          rcases List.mem_append.1 hy with hy | hy
          · exact h1 y hy
          · rw [upD_isUp (h2 y hy)] at hu; cases hu
        · unfold formE at h
          simp only [Bool.and_eq_true] at h
          exact okAll_mem h.2.2.2.2.2.2 y hy
      exact okE_deep d k m y ho
    · omega
end Go.Proofs.YtpcldpnaljheoaaGreatDoor
