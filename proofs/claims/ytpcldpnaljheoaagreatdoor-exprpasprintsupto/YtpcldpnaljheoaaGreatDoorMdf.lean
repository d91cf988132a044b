/-
  The operands, one after another with a flag, and in two rows.
-/
import Derived.Test.YtpcldpnaljheoaaGreatDoorMdk
namespace Go.Proofs.YtpcldpnaljheoaaGreatDoor
open Go.RowKit Go.Deep Go.Maps

/-- The operands as the reference goes through them; up: one that is an ExUp has been. -/
def opsOK (d op : Int) (f : List D → Bool) : Bool → List (List D) → Bool
  | _, [] => true
  | up, x :: r => if isUp x then ((d == 1) && ((op == 7) && upD 1 x)) && opsOK d op f true r else (!up && f x) && opsOK d op f up r
theorem upD_not {d : Int} {x : List D} (h : isUp x = false) : upD d x = false := by
  cases hu : upD d x with
  | false => rfl
  | true => rw [upD_isUp hu] at h; cases h
theorem opsOK_true (f : List D → Bool) : ∀ l, opsOK 1 7 f true l = l.all (upD 1)
  | [] => rfl
  | x :: r => by
    unfold opsOK
    rw [opsOK_true f r, List.all_cons]
    cases hu : isUp x with
    | true => simp
    | false => simp [upD_not hu]
theorem opsOK_call (f : List D → Bool) : ∀ l, opsOK 1 7 f false l = ((l.take (l.findIdx isUp)).all f && (l.drop (l.findIdx isUp)).all (upD 1))
  | [] => rfl
  | x :: r => by
    unfold opsOK
    rw [List.findIdx_cons]
    cases hu : isUp x with
    | true => simp [opsOK_true]
    | false => simp [opsOK_call f r, Bool.and_assoc]
theorem opsOK_else (d op : Int) (f : List D → Bool) (hf : ∀ x, isUp x = true → f x = false) (h : (d == 1) = false ∨ (op == 7) = false) : ∀ l, opsOK d op f false l = l.all f
  | [] => rfl
  | x :: r => by
    unfold opsOK
    rw [List.all_cons]
    cases hu : isUp x with
    | true =>
      rw [hf x hu]
      rcases h with h | h <;> simp [h]
    | false => simp [opsOK_else d op f hf h r]
theorem okE_up (d : Int) (k : Nat) (x : List D) (h : isUp x = true) : okE d k x = false := by
  cases k with
  | zero => rfl
  | succ k =>
    unfold okE
    split
    · next heq => cases heq
    · next op n nm fd l heq =>
      have ho : op = 25 := by simpa [isUp] using h
      subst ho
      rfl
    · rfl
end Go.Proofs.YtpcldpnaljheoaaGreatDoor
