/-
  The reference's Print, walked.
-/
import Derived.Test.YtjdmaindoohmkaaGreatDoorOwn
namespace Go.Proofs.YtjdmaindoohmkaaGreatDoor
open Go.RowKit

def formA (d : Int) (s : ByteArray) : ByteArray := ⟨(form d s.data.toList).toArray⟩
theorem drop_suc (s : ByteArray) (k : Nat) (d : Int) (h : k < s.size) : body d (s.data.toList.drop k) = (if shield d (bt s k) (s.data.toList.drop (k + 1)) then [92, bt s k] else [bt s k]) ++ body d (s.data.toList.drop (k + 1)) := by
  rw [drop_bt s k h, body_append]
theorem ok_low (c : UInt8) (h : okB c = true) : c.toNat < 128 := by
  rcases Nat.lt_or_ge c.toNat 128 with g | g
  · exact g
  · rw [show okB c = okZ c.toNat from rfl, high_bad _ g] at h; cases h
theorem step_yes (d : Int) (s : ByteArray) (k : Nat) (acc : List UInt8) (hlt : k < s.size) (h : shield d (bt s k) (s.data.toList.drop (k + 1)) = true) (hl : acc.length ≤ 2 + 2 * k)
    (he : acc ++ body d (s.data.toList.drop k) = opL d ++ body d s.data.toList) : ∀ a, a = acc ++ [92] ++ [bt s k] → a ++ body d (s.data.toList.drop (k + 1)) = opL d ++ body d s.data.toList ∧ a.length ≤ 2 + 2 * (k + 1) := by
  rintro a rfl
  refine ⟨?_, by simp; omega⟩
  rw [← he, drop_suc s k d hlt, h]
  simp
theorem step_no (d : Int) (s : ByteArray) (k : Nat) (acc : List UInt8) (hlt : k < s.size) (h : shield d (bt s k) (s.data.toList.drop (k + 1)) = false) (hl : acc.length ≤ 2 + 2 * k)
    (he : acc ++ body d (s.data.toList.drop k) = opL d ++ body d s.data.toList) : ∀ a, a = acc ++ [bt s k] → a ++ body d (s.data.toList.drop (k + 1)) = opL d ++ body d s.data.toList ∧ a.length ≤ 2 + 2 * (k + 1) := by
  rintro a rfl
  refine ⟨?_, by simp; omega⟩
  rw [← he, drop_suc s k d hlt, h]
  simp
theorem eqb (c : UInt8) (n : Nat) (hn : n < 256) : ((c.toNat : Int) == (n : Int)) = (c == n.toUInt8) := by
  rw [Bool.eq_iff_iff]
  simp only [beq_iff_eq]
  constructor
  · intro h
    apply UInt8.toNat_inj.1
    have : n.toUInt8.toNat = n := by simp; omega
    omega
  · intro h
    rw [h]
    have : n.toUInt8.toNat = n := by simp; omega
    omega
end Go.Proofs.YtjdmaindoohmkaaGreatDoor
