/-
  The small functions (bracketsOf, mayStand, isText; the reference's right and Check; Begins of both; Pick), walked.
-/
import Derived.Test.YtjdmaindoohmkaaDoorRows
import Derived.Test.YtjdmaindoohmkaaDoorShelf
import Derived.Test.YtjdmaindoohmkaaDoorNt
import Derived.WalkKit
import Derived.WalkSpells
import Derived.WalkLawsBesides
import Derived.BigQuiet
import Derived.Deep.QuietTactic
import Derived.Lib.Hide
import Derived.IntWalk
import Derived.Lib.OthersKept
namespace Go.Proofs.YtjdmaindoohmkaaDoor
open Go.RowKit

theorem ret_bool {a b : Bool} (h : a = b) : Ending.returned (.bool a) = .returned (.bool b) := by rw [h]
theorem brackets_0 (w : World) :
    Calls Tryd.prog 81 #[.int .i64 0] w fun e w' => e = .returned (.tuple #[.agg #[.string (opA 0), .string (clA 0)], .bool true]) ∧ Below w.heap.size w w' := by
  rw [opA_0, clA_0]
  go_enter Tryd.func81, Tryd.ntmps81
  go_wp2
  exact bodyPost_ret (v := .tuple #[.agg #[.string ⟨#[123]⟩, .string ⟨#[125]⟩], .bool true]) (by simp [results, Tryd.results81, go_sem]) rfl ⟨rfl, (Below.refl _ _).alloc (Nat.le_refl _) _⟩
theorem brackets_1 (w : World) :
    Calls Tryd.prog 81 #[.int .i64 1] w fun e w' => e = .returned (.tuple #[.agg #[.string (opA 1), .string (clA 1)], .bool true]) ∧ Below w.heap.size w w' := by
  rw [opA_1, clA_1]
  go_enter Tryd.func81, Tryd.ntmps81
  go_wp2
  exact bodyPost_ret (v := .tuple #[.agg #[.string ⟨#[47, 42]⟩, .string ⟨#[42, 47]⟩], .bool true]) (by simp [results, Tryd.results81, go_sem]) rfl ⟨rfl, (Below.refl _ _).alloc (Nat.le_refl _) _⟩
theorem brackets_yes (d : Int) (hd : Dia d) (w : World) :
    Calls Tryd.prog 81 #[.int .i64 d] w fun e w' => e = .returned (.tuple #[.agg #[.string (opA d), .string (clA d)], .bool true]) ∧ Below w.heap.size w w' := by
  rcases hd with rfl | rfl
  · exact brackets_0 w
  · exact brackets_1 w
theorem brackets_no (d : Int) (hd : ¬ Dia d) (w : World) :
    Calls Tryd.prog 81 #[.int .i64 d] w fun e w' => e = .returned (.tuple #[.agg #[.string ⟨#[]⟩, .string ⟨#[]⟩], .bool false]) ∧ Below w.heap.size w w' := by
  have h0 : (d == 0) = false := by unfold Dia at hd; simp; omega
  have h1 : (d == 1) = false := by unfold Dia at hd; simp; omega
  clear hd
  go_enter Tryd.func81, Tryd.ntmps81
  go_wp2
  exact bodyPost_ret (v := .tuple #[.agg #[.string ⟨#[]⟩, .string ⟨#[]⟩], .bool false]) (by simp [results, Tryd.results81, go_sem]) rfl ⟨rfl, (Below.refl _ _).alloc (Nat.le_refl _) _⟩

theorem may_any (r : Int) (w : World) :
    Calls Tryd.prog 100 #[.int .i32 r] w fun e w' => e = .returned (.bool (okZ r)) ∧ w = w' := by
  go_enter Tryd.func100, Tryd.ntmps100
  go_wp2
  all_goals go_ret
  all_goals refine ⟨ret_bool ?_, rfl⟩
  all_goals unfold okZ
  all_goals simp_all
  omega
theorem right_any (c : Int) (w : World) :
    Calls Tryd.prog 74 #[.int .u8 c] w fun e w' => e = .returned (.bool (okZ c)) ∧ w = w' := by
  go_enter Tryd.func74, Tryd.ntmps74
  go_wp2
  all_goals go_ret
  all_goals refine ⟨ret_bool ?_, rfl⟩
  all_goals unfold okZ
  all_goals simp_all
  omega

theorem high_bad (n : Nat) (h : 128 ≤ n) : okZ n = false := by
  unfold okZ; simp; omega
end Go.Proofs.YtjdmaindoohmkaaDoor
