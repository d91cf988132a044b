/-
  NotePrints, walked.
-/
import Derived.Test.YtejoilnlioekcaaRefP
namespace Go.Proofs.Ytejoilnlioekcaa
open Go.RowKit

theorem err_yes {d : Int} (hd : Dia d) (l : List UInt8) : errL d l = checkL l := by unfold errL; rw [hd.b]; simp
theorem err_no {d : Int} (hd : ¬ Dia d) (l : List UInt8) : errL d l = 1 := by unfold errL; rw [not_dia hd]; rfl
set_option maxHeartbeats 400000 in
theorem notePrints_walk (d : Int) (s : ByteArray) (w : World) (hs : s.size ≤ maxLen) :
    Calls Try.prog 3 #[.int .i64 d, .string s] w fun e w' => e = .returned (.bool true) ∧ Below w.heap.size w w' := by
  by_cases hd : Dia d
  · have D := Lib.hid hd
    have d0 : 0 ≤ d := by unfold Dia at hd; omega
    have d1 : d ≤ 1 := by unfold Dia at hd; omega
    clear hd
    by_cases hc : checkL s.data.toList = 0
    · have C := Lib.hid hc
      have hs2 : s.size ≤ 1024 := by rw [← len_size s]; exact (check_zero hc).1
      clear hc
      go_enter Try.func3, Try.ntmps3
      go_wp2_with fail
      refine (print_fine d s _ (by rw [err_yes D.out]; exact C.out)).mono ?_
      rintro e w1 ⟨rfl, b1⟩
      have B1 := Lib.hid b1
      clear b1
      go_wp2_with fail
      refine (check_any s _ hs).mono ?_
      rw [C.out]
      rintro e w2 ⟨rfl, rfl⟩
      go_wp2_with fail
      refine (refPrint_any d D.out s _ hs2).mono ?_
      rintro e w3 ⟨rfl, b3⟩
      have B3 := Lib.hid (B1.out.trans (b3.mono B1.out.size))
      clear b3
      go_wp2_with fail
      refine (awake_any _).mono ?_
      rintro e w4 ⟨rfl, b4⟩
      have B4 := Lib.hid (B3.out.trans (b4.mono B3.out.size))
      clear b4
      go_wp2_with fail
      go_ret
      exact ⟨rfl, B4.out⟩
    · have C := Lib.hid hc
      have hne : ((checkL s.data.toList : Nat) : Int) ≠ 0 := by omega
      clear hc
      go_enter Try.func3, Try.ntmps3
      go_wp2_with fail
      refine (print_err d s _ (by rw [err_yes D.out]; exact C.out)).mono ?_
      rw [err_yes D.out]
      rintro e w1 ⟨rfl, b1⟩
      have B1 := Lib.hid b1
      clear b1
      go_wp2_with fail
      refine (check_any s _ hs).mono ?_
      generalize ((checkL s.data.toList : Nat) : Int) = q at hne ⊢
      have hq : (q != 0) = true := by simpa using hne
      rintro e w2 ⟨rfl, rfl⟩
      go_wp2_with fail
      refine (awake_any _).mono ?_
      rintro e w4 ⟨rfl, b4⟩
      have B4 := Lib.hid (B1.out.trans (b4.mono B1.out.size))
      clear b4
      go_wp2_with fail
      go_ret
      exact ⟨rfl, B4.out⟩
  · have D := Lib.hid hd
    have dd : d < 0 ∨ 1 < d := by unfold Dia at hd; omega
    clear hd
    rcases dd with h0 | h1
    · go_enter Try.func3, Try.ntmps3
      go_wp2_with fail
      refine (print_err d s _ (by rw [err_no D.out]; decide)).mono ?_
      rw [err_no D.out]
      rintro e w1 ⟨rfl, b1⟩
      have B1 := Lib.hid b1
      clear b1
      go_wp2_with fail
      refine (check_any s _ hs).mono ?_
      generalize ((checkL s.data.toList : Nat) : Int) = q
      rintro e w2 ⟨rfl, rfl⟩
      go_wp2_with fail
      refine (awake_any _).mono ?_
      rintro e w4 ⟨rfl, b4⟩
      have B4 := Lib.hid (B1.out.trans (b4.mono B1.out.size))
      clear b4
      go_wp2_with fail
      go_ret
      exact ⟨rfl, B4.out⟩
    · have h0 : decide (d < 0) = false := by simp; omega
      go_enter Try.func3, Try.ntmps3
      go_wp2_with fail
      refine (print_err d s _ (by rw [err_no D.out]; decide)).mono ?_
      rw [err_no D.out]
      rintro e w1 ⟨rfl, b1⟩
      have B1 := Lib.hid b1
      clear b1
      go_wp2_with fail
      refine (check_any s _ hs).mono ?_
      generalize ((checkL s.data.toList : Nat) : Int) = q
      rintro e w2 ⟨rfl, rfl⟩
      go_wp2_with fail
      refine (awake_any _).mono ?_
      rintro e w4 ⟨rfl, b4⟩
      have B4 := Lib.hid (B1.out.trans (b4.mono B1.out.size))
      clear b4
      go_wp2_with fail
      go_ret
      exact ⟨rfl, B4.out⟩
end Go.Proofs.Ytejoilnlioekcaa
