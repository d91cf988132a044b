/-
  The document's examples ('awake') hold; Pick, walked.
-/
import Derived.Test.YtejoilnlioekcaaPrint
namespace Go.Proofs.Ytejoilnlioekcaa
open Go.RowKit

theorem ex0 : printL 0 (ByteArray.mk #[97, 125, 98]).data.toList = [123, 97, 92, 125, 98, 125] := by decide
theorem ex0e : errL 0 (ByteArray.mk #[97, 125, 98]).data.toList = 0 := by decide
theorem ex1 : printL 1 (ByteArray.mk #[42, 47]).data.toList = [47, 42, 92, 42, 47, 42, 47] := by decide
theorem ex1e : errL 1 (ByteArray.mk #[42, 47]).data.toList = 0 := by decide
set_option maxHeartbeats 400000 in
theorem awake_any (w : World) :
    Calls Try.prog 12 #[] w fun e w' => e = .returned (.bool true) ∧ Below w.heap.size w w' := by
  go_enter Try.func12, Try.ntmps12
  go_wp2_with fail
  refine (print_any 0 ⟨#[97, 125, 98]⟩ _).mono ?_
  rw [ex0, ex0e]
  rintro e w1 ⟨rfl, b1⟩
  have B1 := Lib.hid b1
  clear b1
  go_wp2_with fail
  refine (print_any 1 ⟨#[42, 47]⟩ _).mono ?_
  rw [ex1, ex1e]
  rintro e w2 ⟨rfl, b2⟩
  have B2 := Lib.hid (B1.out.trans (b2.mono B1.out.size))
  clear b2
  go_wp2_with fail
  go_ret
  exact ⟨rfl, B2.out⟩
set_option maxHeartbeats 400000 in
theorem pick_any (x n : Int) (w : World) (h0 : -9223372036854775808 ≤ x) (h1 : x ≤ 9223372036854775807) (hn : 1 ≤ n) (hn2 : n ≤ 1000000) :
    Calls Try.prog 18 #[.int .i64 x, .int .i64 n] w fun e w' => e = .returned (.int .i64 (x % n)) ∧ w = w' := by
  have hne : (n == 0) = false := by simp; omega
  by_cases hx : 0 ≤ x
  · have e : x.tmod n = x % n := Int.tmod_eq_emod_of_nonneg hx
    have b1 := Int.emod_nonneg x (show n ≠ 0 by omega)
    have b2 := Int.emod_lt_of_pos x (show 0 < n by omega)
    go_enter Try.func18, Try.ntmps18
    go_wp2_with fail
    go_ret
    exact ⟨rfl, rfl⟩
  · obtain ⟨y, rfl⟩ : ∃ y, x = -y := ⟨-x, by omega⟩
    have hy : 0 ≤ y := by omega
    have e : (-y).tmod n = -(y % n) := by rw [Int.neg_tmod, Int.tmod_eq_emod_of_nonneg hy]
    have b1 := Int.emod_nonneg y (show n ≠ 0 by omega)
    have b2 := Int.emod_lt_of_pos y (show 0 < n by omega)
    have hd := Int.emod_add_mul_ediv y n
    generalize hq : y % n = q at *
    have HQ := Lib.hid hq
    have HD := Lib.hid hd
    clear hq hd
    by_cases h0q : q = 0
    · subst h0q
      have er : (-y) % n = 0 := by
        have := HD.out
        rw [show -y = 0 + n * (-(y / n)) by rw [Int.mul_neg]; omega, Int.add_mul_emod_self_left]
        simp
      rw [er]
      have e' : (-y).tmod n = 0 := by rw [e]; rfl
      clear e er HQ HD
      go_enter Try.func18, Try.ntmps18
      go_wp2_with fail
      go_ret
      exact ⟨rfl, rfl⟩
    · have er : (-y) % n = n - q := by
        have := HD.out
        rw [show -y = (n - q) + n * (-(y / n) - 1) by rw [Int.mul_sub, Int.mul_neg]; omega, Int.add_mul_emod_self_left]
        exact Int.emod_eq_of_lt (by omega) (by omega)
      rw [er]
      have hneg : -q < 0 := by omega
      clear er HQ HD
      go_enter Try.func18, Try.ntmps18
      go_wp2_with fail
      go_ret
      exact ⟨by rw [show -q + n = n - q by omega]; rfl, rfl⟩

end Go.Proofs.Ytejoilnlioekcaa
