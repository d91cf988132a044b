/-
  NoteReads, walked.
-/
import Derived.Test.YtejoilnlioekcaaRefR
import Derived.Test.YtejoilnlioekcaaAwake
namespace Go.Proofs.Ytejoilnlioekcaa
open Go.RowKit

theorem read_at (d : Int) (s T : ByteArray) (rb rc : Nat) (w : World) (hs : s.size ≤ maxLen) (h : readL d s.data.toList = (T.data.toList, rb, rc)) :
    Calls Try.prog 14 #[.int .i64 d, .string s] w fun e w' => e = .returned (.tuple #[.string T, .int .i64 (rb : Nat), .int .i64 (rc : Nat)]) ∧ Below w.heap.size w w' := by
  have := read_any d s w hs
  rw [h] at this
  exact this
theorem refRead_at (d : Int) (s T : ByteArray) (rb rc : Nat) (w : World) (hs : s.size ≤ maxLen) (h : readL d s.data.toList = (T.data.toList, rb, rc)) :
    Calls Try.prog 15 #[.int .i64 d, .string s] w fun e w' => e = .returned (.tuple #[.string T, .int .i64 (rb : Nat), .int .i64 (rc : Nat)]) ∧ Below w.heap.size w w' := by
  have := refRead_any d s w hs
  rw [h] at this
  exact this
set_option maxHeartbeats 400000 in
theorem noteReads_walk (d : Int) (s : ByteArray) (w : World) (hs : s.size ≤ maxLen) :
    Calls Try.prog 4 #[.int .i64 d, .string s] w fun e w' => e = .returned (.bool true) ∧ Below w.heap.size w w' := by
  obtain ⟨T, rb, rc, hr⟩ : ∃ (T : ByteArray) (rb rc : Nat), readL d s.data.toList = (T.data.toList, rb, rc) := ⟨⟨(readL d s.data.toList).1.toArray⟩, (readL d s.data.toList).2.1, (readL d s.data.toList).2.2, rfl⟩
  have HR := Lib.hid hr
  have HS := Lib.hid hs
  clear hr hs
  go_enter Try.func4, Try.ntmps4
  go_wp2_with fail
  refine (read_at d s T rb rc _ HS.out HR.out).mono ?_
  rintro e w1 ⟨rfl, b1⟩
  have B1 := Lib.hid b1
  clear b1
  go_wp2_with fail
  refine (refRead_at d s T rb rc _ HS.out HR.out).mono ?_
  rintro e w2 ⟨rfl, b2⟩
  have B2 := Lib.hid (B1.out.trans (b2.mono B1.out.size))
  clear b2
  go_wp2_with fail
  refine (begins_any d s _).mono ?_
  rintro e w3 ⟨rfl, b3⟩
  have B3 := Lib.hid (B2.out.trans (b3.mono B2.out.size))
  clear b3
  go_wp2_with fail
  refine (refBeg_any d s _).mono ?_
  rintro e w4 ⟨rfl, rfl⟩
  generalize begL d s.data.toList = q
  go_wp2_with fail
  refine (awake_any _).mono ?_
  rintro e w5 ⟨rfl, b5⟩
  have B5 := Lib.hid (B3.out.trans (b5.mono B3.out.size))
  clear b5
  go_wp2_with fail
  go_ret
  exact ⟨rfl, B5.out⟩
end Go.Proofs.Ytejoilnlioekcaa
