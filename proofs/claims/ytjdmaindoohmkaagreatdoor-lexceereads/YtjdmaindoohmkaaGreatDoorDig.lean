/-
  Digits, walked: the reference's long and Digits, text.Digits, text.Join.
-/
import Derived.Test.YtjdmaindoohmkaaGreatDoorNum
import Derived.Lib.AppendIntMem
namespace Go.Proofs.YtjdmaindoohmkaaGreatDoor
open Go.RowKit

theorem dig_piece (d : Nat) (h : d < 10) : (ByteArray.mk #[48, 49, 50, 51, 52, 53, 54, 55, 56, 57]).extract d (d + 1) = ⟨[UInt8.ofNat (48 + d)].toArray⟩ := by
  have : ∀ d : Fin 10, (ByteArray.mk #[48, 49, 50, 51, 52, 53, 54, 55, 56, 57]).extract d.1 (d.1 + 1) = ⟨[UInt8.ofNat (48 + d.1)].toArray⟩ := by decide
  exact this ⟨d, h⟩

theorem dd_len (u : Nat) : (Lib.decDigits u).length ≤ u + 1 := by
  induction u using Nat.strongRecOn with
  | ind u ih =>
    by_cases h : u < 10
    · rw [Lib.decDigits_one h]; simp
    · rw [Lib.decDigits, dif_neg h]
      have := ih (u / 10) (by omega)
      simp; omega

theorem dd_len2 (u : Nat) (h : 10 ≤ u) : (Lib.decDigits u).length + 5 ≤ u := by
  rw [Lib.decDigits, dif_neg (by omega)]
  have := dd_len (u / 10)
  simp; omega
end Go.Proofs.YtjdmaindoohmkaaGreatDoor
