/-
  NoteApart, walked.
-/
import Derived.Test.YtejoilnlioekcaaLongWalk
namespace Go.Proofs.Ytejoilnlioekcaa
open Go.RowKit

theorem ba_ext {a b : ByteArray} (h : a.data.toList = b.data.toList) : a = b := by
  cases a; cases b; simp at h; subst h; rfl
theorem ext_take (s : ByteArray) (k : Nat) : (s.extract 0 k).data.toList = s.data.toList.take k := by
  simp [ByteArray.data_extract, Array.toList_extract, List.extract_eq_take_drop]
theorem apart (d : Int) (hd : Dia d) (s t : ByteArray) (h1 : errL d s.data.toList = 0) (h2 : errL d t.data.toList = 0) (hn : s ≠ t) : (formA d t).extract 0 (formA d s).size ≠ formA d s := by
  intro h
  apply hn
  apply ba_ext
  refine form_apart d hd _ _ ((form d t.data.toList).drop (formA d s).size) (err_check hd h1) (err_check hd h2) ?_
  have h3 := congrArg (fun x => x.data.toList) h
  change ((formA d t).extract 0 (formA d s).size).data.toList = (formA d s).data.toList at h3
  rw [ext_take, formA_l, formA_l] at h3
  rw [← h3, List.take_append_drop]
theorem bs_eq (a b : ByteArray) (h : a = b) : (a.toList == b.toList) = true := by rw [h]; simp
theorem bs_ne (a b : ByteArray) (h : a ≠ b) : (a.toList == b.toList) = false := by
  rw [Lib.toList_data, Lib.toList_data]
  simp
  intro e
  exact h (ba_ext (by rw [e]))
set_option maxHeartbeats 400000 in
theorem noteApart_walk (n : Int) (s t : ByteArray) (w : World) (n0 : -9223372036854775808 ≤ n) (n1 : n ≤ 9223372036854775807) :
    Calls Try.prog 8 #[.int .i64 n, .string s, .string t] w fun e w' => e = .returned (.bool true) ∧ Below w.heap.size w w' := by
  have hd := dia_mod n
  go_enter Try.func8, Try.ntmps8
  go_wp2_with fail
  refine (pick_any n 2 _ n0 n1 (by omega) (by omega)).mono ?_
  generalize n % 2 = d at hd ⊢
  have D := Lib.hid hd
  clear hd n0 n1
  rintro e w0 ⟨rfl, rfl⟩
  by_cases h1 : errL d s.data.toList = 0
  · by_cases h2 : errL d t.data.toList = 0
    · have E1 := Lib.hid h1
      have E2 := Lib.hid h2
      clear h1 h2
      go_wp2_with fail
      refine (print_fine d s _ E1.out).mono ?_
      rintro e w1 ⟨rfl, b1⟩
      have B1 := Lib.hid b1
      clear b1
      go_wp2_with fail
      refine (print_fine d t _ E2.out).mono ?_
      rintro e w2 ⟨rfl, b2⟩
      have B2 := Lib.hid (B1.out.trans (b2.mono B1.out.size))
      clear b2
      by_cases hst : s = t
      · have hb := bs_eq s t hst
        clear hst
        go_wp2_with fail
        refine (awake_any _).mono ?_
        rintro e w3 ⟨rfl, b3⟩
        have B3 := Lib.hid (B2.out.trans (b3.mono B2.out.size))
        clear b3
        go_wp2_with fail
        go_ret
        exact ⟨rfl, B3.out⟩
      · have hb := bs_ne s t hst
        have hx := bs_ne _ _ (apart d D.out s t E1.out E2.out hst)
        clear hst
        by_cases hl : (formA d s).size ≤ (formA d t).size
        · go_wp2_with fail
          refine (awake_any _).mono ?_
          rintro e w3 ⟨rfl, b3⟩
          have B3 := Lib.hid (B2.out.trans (b3.mono B2.out.size))
          clear b3
          go_wp2_with fail
          go_ret
          exact ⟨rfl, B3.out⟩
        · go_wp2_with fail
          refine (awake_any _).mono ?_
          rintro e w3 ⟨rfl, b3⟩
          have B3 := Lib.hid (B2.out.trans (b3.mono B2.out.size))
          clear b3
          go_wp2_with fail
          go_ret
          exact ⟨rfl, B3.out⟩
    · have E1 := Lib.hid h1
      have E2 := Lib.hid h2
      have hne : ((errL d t.data.toList : Nat) : Int) ≠ 0 := by omega
      clear h1 h2
      go_wp2_with fail
      refine (print_fine d s _ E1.out).mono ?_
      rintro e w1 ⟨rfl, b1⟩
      have B1 := Lib.hid b1
      clear b1
      go_wp2_with fail
      refine (print_err d t _ E2.out).mono ?_
      generalize ((errL d t.data.toList : Nat) : Int) = q at hne ⊢
      rintro e w2 ⟨rfl, b2⟩
      have B2 := Lib.hid (B1.out.trans (b2.mono B1.out.size))
      clear b2
      have hq : (q != 0) = true := by simpa using hne
      go_wp2_with fail
      refine (awake_any _).mono ?_
      rintro e w3 ⟨rfl, b3⟩
      have B3 := Lib.hid (B2.out.trans (b3.mono B2.out.size))
      clear b3
      go_wp2_with fail
      go_ret
      exact ⟨rfl, B3.out⟩
  · have E1 := Lib.hid h1
    have hne : ((errL d s.data.toList : Nat) : Int) ≠ 0 := by omega
    clear h1
    go_wp2_with fail
    refine (print_err d s _ E1.out).mono ?_
    generalize ((errL d s.data.toList : Nat) : Int) = q at hne ⊢
    rintro e w1 ⟨rfl, b1⟩
    have B1 := Lib.hid b1
    clear b1
    have hq : (q != 0) = true := by simpa using hne
    go_wp2_with fail
    refine (print_any d t _).mono ?_
    rintro e w2 ⟨rfl, b2⟩
    have B2 := Lib.hid (B1.out.trans (b2.mono B1.out.size))
    clear b2
    go_wp2_with fail
    refine (awake_any _).mono ?_
    rintro e w3 ⟨rfl, b3⟩
    have B3 := Lib.hid (B2.out.trans (b3.mono B2.out.size))
    clear b3
    go_wp2_with fail
    go_ret
    exact ⟨rfl, B3.out⟩
end Go.Proofs.Ytejoilnlioekcaa
