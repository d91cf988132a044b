/-
  NoteLong, walked.
-/
import Derived.Test.YtejoilnlioekcaaAwake
namespace Go.Proofs.Ytejoilnlioekcaa
open Go.RowKit

def formA (d : Int) (s : ByteArray) : ByteArray := ⟨(form d s.data.toList).toArray⟩
theorem formA_l (d : Int) (s : ByteArray) : (formA d s).data.toList = form d s.data.toList := rfl
theorem formA_size (d : Int) (s : ByteArray) : (formA d s).size = (form d s.data.toList).length := by
  rw [← len_size, formA_l]
/-- What Print tells of a text that is refused: an error's number, and nothing else. -/
theorem print_err (d : Int) (s : ByteArray) (w : World) (h : errL d s.data.toList ≠ 0) :
    Calls Try.prog 10 #[.int .i64 d, .string s] w fun e w' => e = .returned (.tuple #[.string ⟨#[]⟩, .int .i64 (errL d s.data.toList : Nat)]) ∧ Below w.heap.size w w' := by
  have := print_any d s w
  unfold printL at this
  rwa [if_neg h] at this
theorem print_fine (d : Int) (s : ByteArray) (w : World) (h : errL d s.data.toList = 0) :
    Calls Try.prog 10 #[.int .i64 d, .string s] w fun e w' => e = .returned (.tuple #[.string (formA d s), .int .i64 0]) ∧ Below w.heap.size w w' := by
  have := print_any d s w
  unfold printL at this
  rw [if_pos h, h] at this
  exact this
theorem dia_mod (n : Int) : Dia (n % 2) := by unfold Dia; omega
theorem err_check {d : Int} (hd : Dia d) {l : List UInt8} (h : errL d l = 0) : checkL l = 0 := by
  unfold errL at h; rw [hd.b] at h; simpa using h

set_option maxHeartbeats 400000 in
theorem noteLong_walk (n : Int) (s : ByteArray) (w : World) (n0 : -9223372036854775808 ≤ n) (n1 : n ≤ 9223372036854775807) :
    Calls Try.prog 9 #[.int .i64 n, .string s] w fun e w' => e = .returned (.bool true) ∧ Below w.heap.size w w' := by
  have hd := dia_mod n
  go_enter Try.func9, Try.ntmps9
  go_wp2_with fail
  refine (pick_any n 2 _ n0 n1 (by omega) (by omega)).mono ?_
  generalize n % 2 = d at hd ⊢
  have d0 : 0 ≤ d := by unfold Dia at hd; omega
  have d1 : d ≤ 1 := by unfold Dia at hd; omega
  have D := Lib.hid hd
  clear hd n0 n1
  rintro e w0 ⟨rfl, rfl⟩
  by_cases he : errL d s.data.toList = 0
  · have E := Lib.hid he
    have FL : (formA d s).size ≤ 2 * s.size + 2 * (1 + d.toNat) := by rw [formA_size, ← len_size s]; exact (form_len d D.out _).2
    have FG : s.size + 2 * (1 + d.toNat) ≤ (formA d s).size := by rw [formA_size, ← len_size s]; exact (form_len d D.out _).1
    have F1 : ((formA d s).size : Int) ≤ 2 * s.size + 2 * (1 + d) := by omega
    have F2 : (s.size : Int) + 2 * (1 + d) ≤ (formA d s).size := by omega
    have hs2 : s.size ≤ 1024 := by rw [← len_size s]; exact (check_zero (err_check D.out he)).1
    clear he FL FG
    go_wp2_with fail
    refine (print_fine d s _ E.out).mono ?_
    generalize formA d s = t at F1 F2 ⊢
    rintro e w1 ⟨rfl, b1⟩
    have B1 := Lib.hid b1
    clear b1
    go_wp2_with fail
    refine (awake_any _).mono ?_
    rintro e w2 ⟨rfl, b2⟩
    have B2 := Lib.hid (B1.out.trans (b2.mono B1.out.size))
    clear b2
    go_wp2_with fail
    go_ret
    exact ⟨rfl, B2.out⟩
  · have E := Lib.hid he
    have hne : ((errL d s.data.toList : Nat) : Int) ≠ 0 := by omega
    go_wp2_with fail
    refine (print_err d s _ E.out).mono ?_
    generalize ((errL d s.data.toList : Nat) : Int) = q at hne ⊢
    rintro e w1 ⟨rfl, b1⟩
    have B1 := Lib.hid b1
    clear b1 he
    have hq : (q != 0) = true := by simpa using hne
    go_wp2_with fail
    refine (awake_any _).mono ?_
    rintro e w2 ⟨rfl, b2⟩
    have B2 := Lib.hid (B1.out.trans (b2.mono B1.out.size))
    clear b2
    go_wp2_with fail
    go_ret
    exact ⟨rfl, B2.out⟩
end Go.Proofs.Ytejoilnlioekcaa
