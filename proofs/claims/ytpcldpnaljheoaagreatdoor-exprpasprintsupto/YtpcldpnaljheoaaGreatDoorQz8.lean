/-
  The document's printer of expressions, walked: any expression that is right is printed as the program prints it.
-/
import Derived.Test.YtpcldpnaljheoaaGreatDoorQw8
import Derived.Test.YtpcldpnaljheoaaGreatDoorQnh
import Derived.Test.YtpcldpnaljheoaaGreatDoorQc8
import Derived.Test.YtpcldpnaljheoaaGreatDoorPq9
namespace Go.Proofs.YtpcldpnaljheoaaGreatDoor
open Go.RowKit Go.Deep Go.Sort

theorem sgn_two (o : Nat) (h1 : 10 ≤ o) (h2 : o ≤ 24) : ((sgnP (o : Int)).lv = 1 ∧ (sgnP (o : Int)).lf = 2 ∧ (sgnP (o : Int)).rt = 2) ∨ ((sgnP (o : Int)).lv = 2 ∧ (sgnP (o : Int)).lf = 2 ∧ (sgnP (o : Int)).rt = 3) ∨ ((sgnP (o : Int)).lv = 3 ∧ (sgnP (o : Int)).lf = 3 ∧ (sgnP (o : Int)).rt = 4) := by
  have h : ∀ k : Fin 25, 10 ≤ k.1 → (((sgnP (k.1 : Int)).lv = 1 ∧ (sgnP (k.1 : Int)).lf = 2 ∧ (sgnP (k.1 : Int)).rt = 2) ∨ ((sgnP (k.1 : Int)).lv = 2 ∧ (sgnP (k.1 : Int)).lf = 2 ∧ (sgnP (k.1 : Int)).rt = 3) ∨ ((sgnP (k.1 : Int)).lv = 3 ∧ (sgnP (k.1 : Int)).lf = 3 ∧ (sgnP (k.1 : Int)).rt = 4)) := by decide
  exact h ⟨o, by omega⟩ h1
theorem rprT_any : ∀ (k : Nat) (x : List D), okE 0 k x = true → ShE x → ∀ w0, RfFn w0 (prT k) x
  | 0, x, h, _ => by unfold okE at h; cases h
  | k + 1, x, h, hs => by
    intro w0 vs hv W hW hl
    obtain ⟨op, n, nm, fd, l, la, lc, rfl, rfl, _, _, hnm, hfd, hA, hks⟩ := hv.openE hs
    have R := okE_right h
    have ih : ∀ y ∈ l, RfFn w0 (prT k) y := fun y hy => rprT_any k y (R.all y hy) (hks y hy) w0
    have hop : op = 1 ∨ op = 2 ∨ op = 3 ∨ op = 4 ∨ op = 5 ∨ op = 6 ∨ op = 7 ∨ (op = 8 ∨ op = 9) ∨ (10 ≤ op ∧ op ≤ 24) := by have := R.lo; have := R.hi; omega
    show Calls Tryz.prog _ _ W (RpPost _ W)
    unfold prT at hl ⊢
    rcases hop with e | e | e | e | e | e | e | e | e
    · subst e
      rw [if_pos rfl] at hl ⊢
      obtain ⟨h0, h1⟩ := R.n1 rfl
      obtain ⟨m, rfl⟩ := Int.eq_ofNat_of_zero_le h0
      exact rp_num1 (fun U => rText_3 m (by omega) U) W
    · subst e
      rw [if_neg (by omega), if_pos rfl] at hl ⊢
      obtain ⟨h0, h1⟩ := R.n2 rfl
      obtain ⟨m, rfl⟩ := Int.eq_ofNat_of_zero_le h0
      exact rp_bool (by omega) W
    · subst e
      rw [if_neg (by omega), if_neg (by omega), if_pos rfl] at hl ⊢
      obtain ⟨h0, h1⟩ := R.n3 rfl
      obtain ⟨m, rfl⟩ := Int.eq_ofNat_of_zero_le h0
      exact rp_num3 (fun U => rText_4 m (by omega) U) W
    · subst e
      rw [if_neg (by omega), if_neg (by omega), if_neg (by omega), if_pos rfl] at hl ⊢
      exact rp_name W
    · obtain ⟨y, rfl⟩ := R.l5 (.inl e)
      subst e
      rw [if_neg (by omega), if_neg (by omega), if_neg (by omega), if_neg (by omega), if_pos rfl] at hl ⊢
      exact rp_index (ih y (List.mem_singleton.2 rfl)) (hks y (List.mem_singleton.2 rfl)) hA rfl W hW hl
    · subst e
      rw [if_neg (by omega), if_neg (by omega), if_neg (by omega), if_neg (by omega), if_neg (by omega), if_pos rfl] at hl ⊢
      exact rp_field hl W
    · subst e
      rw [if_neg (by omega), if_neg (by omega), if_neg (by omega), if_neg (by omega), if_neg (by omega), if_neg (by omega), if_pos rfl] at hl ⊢
      exact rp_call ih hks hA W hW hl
    · obtain ⟨y, rfl⟩ := R.l5 (.inr e)
      have hm : y ∈ [y] := List.mem_singleton.2 rfl
      rw [if_neg (by omega), if_neg (by omega), if_neg (by omega), if_neg (by omega), if_neg (by omega), if_neg (by omega), if_neg (by omega), if_pos e] at hl ⊢
      obtain ⟨q1, q2⟩ := okE_op (R.all y hm) (hks y hm)
      exact rp_pre (ih y hm) (hks y hm) q1 q2 e hA rfl W hW hl
    · obtain ⟨y, z, rfl⟩ := R.l10 e.1
      have hy : y ∈ [y, z] := by simp
      have hz : z ∈ [y, z] := by simp
      rw [if_neg (by omega), if_neg (by omega), if_neg (by omega), if_neg (by omega), if_neg (by omega), if_neg (by omega), if_neg (by omega), if_neg (by omega)] at hl ⊢
      obtain ⟨q1, q2⟩ := okE_op (R.all y hy) (hks y hy)
      obtain ⟨q3, q4⟩ := okE_op (R.all z hz) (hks z hz)
      obtain ⟨o, rfl⟩ := Int.eq_ofNat_of_zero_le (show (0 : Int) ≤ op by omega)
      rcases sgn_two o (by omega) (by omega) with ⟨a1, a2, a3⟩ | ⟨a1, a2, a3⟩ | ⟨a1, a2, a3⟩
      · exact rp_two1 (ih y hy) (ih z hz) (hks y hy) (hks z hz) q1 q2 q3 q4 (by omega) (by omega) a1 a2 a3 hA rfl rfl W hW hl
      · exact rp_two2 (ih y hy) (ih z hz) (hks y hy) (hks z hz) q1 q2 q3 q4 (by omega) (by omega) a1 a2 a3 hA rfl rfl W hW hl
      · exact rp_two3 (ih y hy) (ih z hz) (hks y hy) (hks z hz) q1 q2 q3 q4 (by omega) (by omega) a1 a2 a3 hA rfl rfl W hW hl
end Go.Proofs.YtpcldpnaljheoaaGreatDoor
