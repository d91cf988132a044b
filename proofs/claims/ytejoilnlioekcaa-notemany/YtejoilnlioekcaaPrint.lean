/-
  note.Print, walked.
-/
import Derived.Test.YtejoilnlioekcaaBld
namespace Go.Proofs.Ytejoilnlioekcaa
open Go.RowKit

theorem drop_suc (s : ByteArray) (k : Nat) (d : Int) (h : k < s.size) : body d (s.data.toList.drop k) = (if shield d (bt s k) (s.data.toList.drop (k + 1)) then [92, bt s k] else [bt s k]) ++ body d (s.data.toList.drop (k + 1)) := by
  rw [drop_bt s k h, body_append]
theorem ok_at (s : ByteArray) (k : Nat) (h : k < s.size) (ha : s.data.toList.all okB = true) : okB (bt s k) = true := by
  cases hc : okB (bt s k) with
  | true => rfl
  | false => rw [all_bad s k h hc] at ha; cases ha
theorem ok_low (c : UInt8) (h : okB c = true) : c.toNat < 128 := by
  rcases Nat.lt_or_ge c.toNat 128 with g | g
  · exact g
  · rw [show okB c = okZ c.toNat from rfl, high_bad _ g] at h; cases h
set_option maxHeartbeats 400000 in
theorem print_no (d : Int) (s : ByteArray) (w : World) (hd : ¬ Dia d) :
    Calls Try.prog 10 #[.int .i64 d, .string s] w fun e w' => e = .returned (.tuple #[.string ⟨#[]⟩, .int .i64 1]) ∧ Below w.heap.size w w' := by
  go_enter Try.func10, Try.ntmps10
  go_wp2_with fail
  refine (brackets_no d hd _).mono ?_
  rintro e w1 ⟨rfl, b1⟩
  have B1 := Lib.hid b1
  clear b1
  go_wp2_with fail
  go_ret2
  exact ⟨rfl, B1.out.alloc B1.out.size _⟩
set_option maxHeartbeats 400000 in
theorem print_long (d : Int) (s : ByteArray) (w : World) (hd : Dia d) (hs : 1024 < s.size) :
    Calls Try.prog 10 #[.int .i64 d, .string s] w fun e w' => e = .returned (.tuple #[.string ⟨#[]⟩, .int .i64 3]) ∧ Below w.heap.size w w' := by
  go_enter Try.func10, Try.ntmps10
  go_wp2_with fail
  refine (brackets_yes d hd _).mono ?_
  rintro e w1 ⟨rfl, b1⟩
  have B1 := Lib.hid b1
  clear b1
  go_wp2_with fail
  go_ret2
  exact ⟨rfl, B1.out.alloc B1.out.size _⟩
set_option maxHeartbeats 400000 in
theorem print_bad (d : Int) (s : ByteArray) (w : World) (hd : Dia d) (hs : s.size ≤ 1024) (ha : s.data.toList.all okB = false) :
    Calls Try.prog 10 #[.int .i64 d, .string s] w fun e w' => e = .returned (.tuple #[.string ⟨#[]⟩, .int .i64 8]) ∧ Below w.heap.size w w' := by
  have A := Lib.hid ha
  clear ha
  go_enter Try.func10, Try.ntmps10
  go_wp2_with fail
  refine (brackets_yes d hd _).mono ?_
  rintro e w1 ⟨rfl, b1⟩
  have B1 := Lib.hid b1
  clear b1
  go_wp2_with fail
  refine (isText_any s _).mono ?_
  rw [A.out]
  rintro e w2 ⟨rfl, b2⟩
  have B2 := Lib.hid ((B1.out.alloc B1.out.size _).trans (b2.mono (by have := B1.out.size; simp; omega)))
  clear b2
  go_wp2_with fail
  go_ret2
  exact ⟨rfl, B2.out⟩
set_option maxHeartbeats 800000 in
theorem print_ok (d : Int) (s : ByteArray) (w : World) (hd : Dia d) (hs : s.size ≤ 1024) (ha : s.data.toList.all okB = true) :
    Calls Try.prog 10 #[.int .i64 d, .string s] w fun e w' => e = .returned (.tuple #[.string ⟨(form d s.data.toList).toArray⟩, .int .i64 0]) ∧ Below w.heap.size w w' := by
  have A := Lib.hid ha
  clear ha
  go_enter Try.func10, Try.ntmps10
  go_wp2_with fail
  refine (brackets_yes d hd _).mono ?_
  rintro e w1 ⟨rfl, b1⟩
  have B1 := Lib.hid b1
  clear b1
  go_wp2_with fail
  refine (isText_any s _).mono ?_
  rw [A.out]
  rintro e w2 ⟨rfl, b2⟩
  have BB := Lib.hid ((B1.out.alloc B1.out.size (.cells #[.string (opA d), .string (clA d)] 41)).trans (b2.mono (by have := B1.out.size; simp; omega)))
  have hz : w1.heap.size < w2.heap.size := by have := b2.size; simp at this; omega
  have c0 : w2.cell? ⟨w1.heap.size, 0, none⟩ = some (.string (opA d)) := by
    rw [b2.cell (p := ⟨w1.heap.size, 0, none⟩) (by simp), cell_new]; rfl
  have c1 : w2.cell? ⟨w1.heap.size, 1, none⟩ = some (.string (clA d)) := by
    rw [b2.cell (p := ⟨w1.heap.size, 1, none⟩) (by simp), cell_new]; rfl
  clear b2
  go_wp2_with fail
  refine (Try.Builder_WriteString_k w2.heap.size w2.heap.size [] (opA d) _ (Lib.IsBuilderF.of (Lib.fresh_isBuilder 48 5 w2)) (by have := opL_len d; show 0 + (opL d).length ≤ _; omega) (by simp)).mono ?_
  rintro e w3 ⟨rfl, h3, b3, k3⟩
  have hz3 : w2.heap.size < w3.heap.size := by have := b3.size; simp at this; omega
  have B3 := Lib.hid (((Below.refl w2.heap.size w2).alloc (Nat.le_refl _) (.cells #[.pointer none, .slice none 0 0] 48)).trans b3)
  have ST := Lib.hid (Bld.begin (s := s) (acc := opL d) (Or.inr h3) B3.out hz3)
  clear h3 b3 k3
  go_wp2_with fail
  go_loopw [] (fun wr => ∃ (pos : Nat) (acc : List UInt8), Bld w2 w2.heap.size w3.heap.size s pos acc wr ∧ acc ++ body d (s.data.toList.drop pos) = opL d ++ body d s.data.toList ∧ acc.length ≤ 2 + 2 * pos ∧ pos ≤ s.size) (fun wr => s.size - wr.iterPos w3.heap.size)
  case atStart => exact ⟨0, opL d, ST.out, rfl, opL_len d, Nat.zero_le _⟩
  case round =>
    obtain ⟨pos, acc, hst, hacc, hal, hps⟩ := hrel
    have S := Lib.hid hst
    have AC := Lib.hid hacc
    clear hst hacc ST
    by_cases hp : pos < s.size
    · have hok := ok_at s pos hp A.out
      have hlow := ok_low _ hok
      have hnx := S.out.nextLow hp hlow
      have S1 := Lib.hid (S.out.next (pos + 1))
      have hc1 : (wr.iterAt w3.heap.size s (pos + 1)).cell? ⟨w1.heap.size, 1, none⟩ = some (.string (clA d)) := by rw [S1.out.cell _ _ hz]; exact c1
      have DS := Lib.hid (drop_suc s pos d hp)
      clear hok
      cases hsh : shield d (bt s pos) (s.data.toList.drop (pos + 1)) with
      | true =>
        have SH := Lib.hid hsh
        clear hsh
        have N : Hid (∀ a, a = acc ++ [92] ++ [bt s pos] → a ++ body d (s.data.toList.drop (pos + 1)) = opL d ++ body d s.data.toList ∧ a.length ≤ 2 + 2 * (pos + 1)) := Lib.hid (by
          rintro a rfl
          refine ⟨?_, by simp; omega⟩
          rw [← AC.out, DS.out, SH.out]
          simp)
        by_cases h92 : (bt s pos).toNat = 92
        · have hq : (((bt s pos).toNat : Int) == 92) = true := by simp; omega
          clear h92
          go_wp2_with fail
          go_quiet (fail)
          go_wp2_with fail
          refine ((S1.out.drewN _).byte92 (by omega)).mono ?_
          rintro e w4 ⟨rfl, s4⟩
          have S4 := Lib.hid s4
          clear s4
          go_wp2_with fail
          refine (S4.out.writeRune (bt s pos) hlow (by simp; omega)).mono ?_
          rintro e w5 ⟨rfl, s5⟩
          have S5 := Lib.hid s5
          clear s5
          go_wp2_with fail
          go_roundw
          case rel => exact ⟨pos + 1, _, S5.out, (N.out _ rfl).1, (N.out _ rfl).2, hp⟩
          case measure => rw [S5.out.pos, S.out.pos]; omega
        · have hq : (((bt s pos).toNat : Int) == 92) = false := by simp; omega
          have CL : Hid (clos d (s.data.toList.drop pos) = true) := Lib.hid (by
            have h := SH.out
            unfold shield at h
            rw [drop_bt s pos hp]
            have : (bt s pos == 92) = false := by simp; intro h; apply h92; rw [h]; rfl
            rw [this] at h
            simpa using h)
          clear h92
          go_wp2_with fail
          go_quiet ((go_at_call 23; exact Calls.quiet_of_same (has_yes s pos d _ CL.out)))
          go_wp2_with fail
          refine ((S1.out.drewN _).byte92 (by omega)).mono ?_
          rintro e w4 ⟨rfl, s4⟩
          have S4 := Lib.hid s4
          clear s4
          go_wp2_with fail
          refine (S4.out.writeRune (bt s pos) hlow (by simp; omega)).mono ?_
          rintro e w5 ⟨rfl, s5⟩
          have S5 := Lib.hid s5
          clear s5
          go_wp2_with fail
          go_roundw
          case rel => exact ⟨pos + 1, _, S5.out, (N.out _ rfl).1, (N.out _ rfl).2, hp⟩
          case measure => rw [S5.out.pos, S.out.pos]; omega
      | false =>
        have SH := Lib.hid hsh
        clear hsh
        have N : Hid (∀ a, a = acc ++ [bt s pos] → a ++ body d (s.data.toList.drop (pos + 1)) = opL d ++ body d s.data.toList ∧ a.length ≤ 2 + 2 * (pos + 1)) := Lib.hid (by
          rintro a rfl
          refine ⟨?_, by simp; omega⟩
          rw [← AC.out, DS.out, SH.out]
          simp)
        have h2 : (bt s pos == 92) = false ∧ clos d (s.data.toList.drop pos) = false := by
          have h := SH.out
          unfold shield at h
          rw [drop_bt s pos hp]
          simpa using h
        have hq : (((bt s pos).toNat : Int) == 92) = false := by
          have h := h2.1
          simp at h ⊢
          intro h3
          apply h
          apply UInt8.toNat_inj.1
          show _ = 92
          omega
        have CL := Lib.hid h2.2
        clear h2
        go_wp2_with fail
        go_quiet ((go_at_call 23; exact Calls.quiet_of_same (has_no s pos d _ CL.out)))
        go_wp2_with fail
        refine ((S1.out.drewN _).writeRune (bt s pos) hlow (by omega)).mono ?_
        rintro e w5 ⟨rfl, s5⟩
        have S5 := Lib.hid s5
        clear s5
        go_wp2_with fail
        go_roundw
        case rel => exact ⟨pos + 1, _, S5.out, (N.out _ rfl).1, (N.out _ rfl).2, hp⟩
        case measure => rw [S5.out.pos, S.out.pos]; omega
    · have hnx : ∀ ty, (Instr.next (.pointer (some ⟨w3.heap.size, 0, none⟩)) true ty).run Try.prog wr = _ := fun ty => Lib.run_next_end_at wr w3.heap.size s pos ty S.out.it hp
      have hc1 : wr.cell? ⟨w1.heap.size, 1, none⟩ = some (.string (clA d)) := by rw [S.out.cell _ _ hz]; exact c1
      have F : Hid (acc ++ clL d = form d s.data.toList) := Lib.hid (by
        have h := AC.out
        rw [drop_end s pos hp, body, List.append_nil] at h
        rw [h]
        rfl)
      go_wp2_with fail
      refine (S.out.writeString (clA d) (by have := clL_len d; show (clL d).length ≤ _; omega) (by omega)).mono ?_
      rintro e w4 ⟨rfl, s4⟩
      have S4 := Lib.hid s4
      clear s4
      go_wp2_with fail
      refine S4.out.string.mono ?_
      rintro e w5 ⟨rfl, s5⟩
      have S5 := Lib.hid s5
      clear s5
      go_wp2_with fail
      go_ret2
      refine ⟨?_, BB.out.trans (S5.out.bel.mono BB.out.size)⟩
      rw [← F.out]
      rfl
theorem print_any (d : Int) (s : ByteArray) (w : World) :
    Calls Try.prog 10 #[.int .i64 d, .string s] w fun e w' => e = .returned (.tuple #[.string ⟨(printL d s.data.toList).toArray⟩, .int .i64 (errL d s.data.toList : Nat)]) ∧ Below w.heap.size w w' := by
  have hl := len_size s
  by_cases hd : Dia d
  · by_cases hs : 1024 < s.size
    · have e : errL d s.data.toList = 3 := by unfold errL checkL; rw [hd.b, if_neg (by simp), if_pos (by omega)]
      unfold printL
      rw [e]
      exact print_long d s w hd hs
    · cases ha : s.data.toList.all okB with
      | true =>
        have e : errL d s.data.toList = 0 := by unfold errL checkL; rw [hd.b, if_neg (by simp), if_neg (by omega), ha]; rfl
        unfold printL
        rw [e]
        exact print_ok d s w hd (by omega) ha
      | false =>
        have e : errL d s.data.toList = 8 := by unfold errL checkL; rw [hd.b, if_neg (by simp), if_neg (by omega), ha]; rfl
        unfold printL
        rw [e]
        exact print_bad d s w hd (by omega) ha
  · have e : errL d s.data.toList = 1 := by unfold errL; rw [not_dia hd]; rfl
    unfold printL
    rw [e]
    exact print_no d s w hd
end Go.Proofs.Ytejoilnlioekcaa
