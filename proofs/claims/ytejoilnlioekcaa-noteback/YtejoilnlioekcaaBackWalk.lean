/-
  NoteBack, walked.
-/
import Derived.Test.YtejoilnlioekcaaReadsWalk
import Derived.Test.YtejoilnlioekcaaApartWalk
namespace Go.Proofs.Ytejoilnlioekcaa
open Go.RowKit

theorem add_l (a b : ByteArray) : (a ++ b).data.toList = a.data.toList ++ b.data.toList := by simp
set_option maxHeartbeats 400000 in
theorem noteBack_walk (s t : ByteArray) (w : World) (ht : t.data.toList.length ≤ reachBytes) :
    Calls Try.prog 5 #[.string s, .string t] w fun e w' => e = .returned (.bool true) ∧ Below w.heap.size w w' := by
  have ht2 : t.size ≤ 1000000000000000 := by rw [len_size] at ht; exact Nat.le_trans ht (by decide)
  clear ht
  go_enter Try.func5, Try.ntmps5
  go_wp2_with fail
  go_loopw [5] (fun i wr => ∃ k : Nat, i = .int .i64 k ∧ k ≤ 2 ∧ Below w.heap.size w wr) (fun i _ => 2 - (intOf i).toNat)
  case atStart => exact ⟨0, rfl, by decide, Below.refl _ _⟩
  case round =>
    obtain ⟨k, rfl, hk, hb⟩ := hrel
    have B0 := Lib.hid hb
    clear hb
    by_cases hlt : k < 2
    · have D : Hid (Dia (k : Int)) := Lib.hid (by unfold Dia; omega)
      by_cases he : errL (k : Int) s.data.toList = 0
      · have C := Lib.hid (err_check D.out he)
        have E := Lib.hid he
        have hf : (formA (k : Int) s).size ≤ 3000 := by
          have h1 := (form_len (k : Int) D.out s.data.toList).2
          have h2 := (check_zero C.out).1
          rw [formA_size]
          omega
        have R : Hid (readL (k : Int) (formA (k : Int) s ++ t).data.toList = (s.data.toList, (formA (k : Int) s).size, 0)) := Lib.hid (by
          rw [add_l, formA_l, read_form _ D.out _ _ C.out, formA_size])
        have G : Hid (begL (k : Int) (formA (k : Int) s).data.toList = true) := Lib.hid (by rw [formA_l]; exact beg_form _ D.out _)
        clear he
        go_wp2_with fail
        refine (print_fine (k : Int) s _ E.out).mono ?_
        generalize formA (k : Int) s = u at hf R G ⊢
        have hsum : u.size + t.size ≤ 9223372036854775807 := by omega
        rintro e w1 ⟨rfl, b1⟩
        have B1 := Lib.hid (B0.out.trans (b1.mono B0.out.size))
        clear b1
        go_wp2_with fail
        refine (read_at (k : Int) (u ++ t) s u.size 0 _ (by rw [ByteArray.size_append]; unfold maxLen; omega) R.out).mono ?_
        rintro e w2 ⟨rfl, b2⟩
        have B2 := Lib.hid (B1.out.trans (b2.mono B1.out.size))
        clear b2
        go_wp2_with fail
        refine (begins_any (k : Int) u _).mono ?_
        rw [G.out]
        rintro e w3 ⟨rfl, b3⟩
        have B3 := Lib.hid (B2.out.trans (b3.mono B2.out.size))
        clear b3
        go_wp2_with fail
        go_roundw
        case rel => exact ⟨k + 1, by go_num, by omega, B3.out⟩
        case measure => simp [intOf]; omega
      · have E := Lib.hid he
        have hne : ((errL (k : Int) s.data.toList : Nat) : Int) ≠ 0 := by omega
        clear he
        go_wp2_with fail
        refine (print_err (k : Int) s _ E.out).mono ?_
        generalize ((errL (k : Int) s.data.toList : Nat) : Int) = q at hne ⊢
        have hq : (q != 0) = true := by simpa using hne
        rintro e w1 ⟨rfl, b1⟩
        have B1 := Lib.hid (B0.out.trans (b1.mono B0.out.size))
        clear b1
        go_wp2_with fail
        go_roundw
        case rel => exact ⟨k + 1, by go_num, by omega, B1.out⟩
        case measure => simp [intOf]; omega
    · go_wp2_with fail
      refine (awake_any _).mono ?_
      rintro e w2 ⟨rfl, b2⟩
      have B2 := Lib.hid (B0.out.trans (b2.mono B0.out.size))
      clear b2
      go_wp2_with fail
      go_ret
      exact ⟨rfl, B2.out⟩
end Go.Proofs.Ytejoilnlioekcaa
