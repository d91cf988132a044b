/-
  The reference's Routine of the first dialect: walked.
-/
import Derived.Test.YtpcldpnaljheoaaGreatDoorMfn
namespace Go.Proofs.YtpcldpnaljheoaaGreatDoor
open Go.RowKit Go.Maps

set_option maxRecDepth 100000 in
set_option maxHeartbeats 2000000 in
theorem refRoutine_0 (s : ByteArray) (w : World) (hs : s.size ≤ 2000000) : Calls Tryz.prog 55 #[.int .i64 0, .string s] w fun e w' => e = .returned (.bool (okR 0 s)) ∧ Below w.heap.size w w' := by
  have HO := Lib.hid (show okR 0 s = okName 0 s from rfl)
  go_enter Tryz.func55, Tryz.ntmps55
  go_wp2_with fail
  refine (refName_any 0 s _ (by unfold maxLen; omega)).mono ?_
  rintro e w1 ⟨rfl, b1⟩
  have B1 := Lib.hid b1
  clear b1
  generalize hr : okName 0 s = r
  rw [hr] at HO
  go_wp2_with fail
  go_ret
  exact ⟨by rw [HO.out]; rfl, B1.out⟩
theorem refRoutine_z (d : Int) (hd : d = 0) (s : ByteArray) (w : World) (hs : s.size ≤ 2000000) : Calls Tryz.prog 55 #[.int .i64 d, .string s] w fun e w' => e = .returned (.bool (okR d s)) ∧ Below w.heap.size w w' := by
  subst hd
  exact refRoutine_0 s w hs
end Go.Proofs.YtpcldpnaljheoaaGreatDoor
