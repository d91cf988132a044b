/-
  isText, and Begins of both, walked.
-/
import Derived.Test.YtjdmaindoohmkaaDoorNts
namespace Go.Proofs.YtjdmaindoohmkaaDoor
open Go.RowKit

set_option maxHeartbeats 400000 in
theorem begins_any (d : Int) (s : ByteArray) (w : World) :
    Calls Tryd.prog 54 #[.int .i64 d, .string s] w fun e w' => e = .returned (.bool (begL d s.data.toList)) ∧ Below w.heap.size w w' := by
  by_cases hd : Dia d
  · have D := Lib.hid hd.b
    go_enter Tryd.func54, Tryd.ntmps54
    go_wp2_with fail
    refine (brackets_yes d hd _).mono ?_
    rintro e w1 ⟨rfl, b1⟩
    have B1 := Lib.hid b1
    clear b1
    go_wp2_with fail
    refine (Tryd.strings_HasPrefix s (opA d) _).mono ?_
    rintro e w2 ⟨rfl, rfl⟩
    go_wp2_with fail
    go_ret
    refine ⟨ret_bool ?_, B1.out.alloc B1.out.size _⟩
    unfold begL
    rw [D.out]
    rfl
  · have D := Lib.hid (not_dia hd)
    go_enter Tryd.func54, Tryd.ntmps54
    go_wp2_with fail
    refine (brackets_no d hd _).mono ?_
    rintro e w1 ⟨rfl, b1⟩
    have B1 := Lib.hid b1
    clear b1
    go_wp2_with fail
    go_ret
    refine ⟨ret_bool ?_, B1.out.alloc B1.out.size _⟩
    unfold begL
    rw [D.out]
    rfl
end Go.Proofs.YtjdmaindoohmkaaDoor
