/-
  TextNil, walked.
-/
import Derived.Test.YtlmigpobillkoaaDoorAwake
namespace Go.Proofs.YtlmigpobillkoaaDoor
open Go.RowKit
set_option maxHeartbeats 400000 in
theorem while_nil (s : ByteArray) (w : World) :
    Calls Tryd.prog 18 #[.pointer none, .string s] w fun e w' => e = .returned (.string ⟨#[]⟩) ∧ w = w' := by
  go_enter Tryd.func18, Tryd.ntmps18
  go_wp2_with fail
  go_ret
  exact ⟨rfl, rfl⟩
set_option maxHeartbeats 400000 in
theorem textNil_walk (n : Int) (s : ByteArray) (w : World) (htab : Lib.TabIs Tryd.prog w "internal/strconv.uint64pow10" .u64 Lib.pow10Tab) :
    Calls Tryd.prog 8 #[.int .i64 n, .string s] w fun e w' => e = .returned (.bool true) ∧ Below w.heap.size w w' := by
  have T := Lib.hid htab
  clear htab
  go_enter Tryd.func8, Tryd.ntmps8
  go_wp2_with fail
  refine (peek_nil n _).mono ?_
  rintro e w' ⟨rfl, n1, rfl⟩
  go_wp2_with fail
  refine (next_nil _).mono ?_
  rintro e w' ⟨rfl, n2, rfl⟩
  go_wp2_with fail
  refine (skip_nil n _).mono ?_
  rintro e w' ⟨rfl, n3, rfl⟩
  have B00 : Below w.heap.size w (w.drewN (n1 + n2 + n3)) := ⟨rfl, rfl, rfl, Nat.le_refl _, fun _ _ => rfl⟩
  have B0 := Lib.hid B00
  clear B00
  go_wp2_with fail
  refine (pos_nil _).mono ?_
  rintro e w2 ⟨rfl, b2⟩
  have B2 := Lib.hid (B0.out.trans (b2.mono B0.out.size))
  clear b2 B0
  go_wp2_with fail
  refine (while_nil s _).mono ?_
  rintro e w3 ⟨rfl, rfl⟩
  go_wp2_with fail
  refine (awake_any _ (Joins.tab_stays gPow T.out B2.out (Nat.le_refl _))).mono ?_
  rintro e w4 ⟨rfl, b4⟩
  have B4 := Lib.hid (B2.out.trans (b4.mono B2.out.size))
  clear b4 B2
  go_wp2_with fail
  go_ret
  exact ⟨rfl, B4.out⟩
end Go.Proofs.YtlmigpobillkoaaDoor
