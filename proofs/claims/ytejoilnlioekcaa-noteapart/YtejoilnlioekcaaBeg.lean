/-
  isText, and Begins of both, walked.
-/
import Derived.Test.YtejoilnlioekcaaSmall
namespace Go.Proofs.Ytejoilnlioekcaa
open Go.RowKit

set_option maxHeartbeats 400000 in
theorem isText_any (s : ByteArray) (w : World) :
    Calls Try.prog 21 #[.string s] w fun e w' => e = .returned (.bool (s.data.toList.all okB)) ∧ Below w.heap.size w w' := by
  go_enter Try.func21, Try.ntmps21
  go_wp2
  go_loopw [] (fun wr => ∃ pos : Nat, wr.heap[w.heap.size]? = some (.stringIter s pos) ∧ Below w.heap.size w wr ∧ (s.data.toList.take pos).all okB = true) (fun wr => s.size - wr.iterPos w.heap.size)
  case atStart => exact ⟨0, World.iter_heap w s 0, (Below.refl _ w).alloc (Nat.le_refl _) _, rfl⟩
  case round =>
    obtain ⟨pos, hit, hbw, ha⟩ := hrel
    have IT := Lib.hid hit
    have BW := Lib.hid hbw
    have A := Lib.hid ha
    clear hit hbw ha
    by_cases hp : pos < s.size
    · by_cases hi : (bt s pos).toNat < 128
      · have hnx : ∀ ty, (Instr.next (.pointer (some ⟨w.heap.size, 0, none⟩)) true ty).run Try.prog wr = .ok (.tuple #[.bool true, .int .i64 pos, .int .i32 (bt s pos).toNat]) (wr.iterAt w.heap.size s (pos + 1)) := by
          intro ty
          have := Lib.run_next_ascii_at (P := Try.prog) wr w.heap.size s pos ty IT.out hp (by rw [bt_eq s pos hp]; exact hi)
          rw [bt_eq s pos hp] at this
          exact this
        cases hc : okB (bt s pos) with
        | true =>
          have H := Lib.hid hc
          clear hc
          go_wp2_with fail
          refine (may_any _ _).mono ?_
          rw [show okZ ((bt s pos).toNat : Int) = true from H.out]
          rintro e w' ⟨rfl, rfl⟩
          go_wp2
          go_roundw
          case rel => exact ⟨pos + 1, Lib.iterAt_heap wr w.heap.size s pos (pos + 1) IT.out, Lib.below_iterAt BW.out (Nat.le_refl _) s (pos + 1), by rw [all_take s pos hp, A.out, H.out]; rfl⟩
          case measure =>
            simp only [World.iterPos, Lib.iterAt_heap wr w.heap.size s pos (pos + 1) IT.out, IT.out]
            omega
        | false =>
          have H := Lib.hid hc
          clear hc
          go_wp2_with fail
          refine (may_any _ _).mono ?_
          rw [show okZ ((bt s pos).toNat : Int) = false from H.out]
          rintro e w' ⟨rfl, rfl⟩
          go_wp2
          go_ret
          rw [all_bad s pos hp H.out]
          exact ⟨rfl, Lib.below_iterAt BW.out (Nat.le_refl _) s (pos + 1)⟩
      · have hnx : ∀ ty, (Instr.next (.pointer (some ⟨w.heap.size, 0, none⟩)) true ty).run Try.prog wr = _ := fun ty => Lib.run_next_any_at wr w.heap.size s pos ty IT.out hp
        have hh := (decode_high s pos hp (by rw [bt_eq s pos hp]; omega)).1
        go_wp2_with fail
        refine (may_any _ _).mono ?_
        rw [high_bad _ hh]
        rintro e w' ⟨rfl, rfl⟩
        go_wp2
        go_ret
        rw [all_bad s pos hp (high_bad _ (by omega))]
        exact ⟨rfl, Lib.below_iterAt BW.out (Nat.le_refl _) s _⟩
    · have hnx : ∀ ty, (Instr.next (.pointer (some ⟨w.heap.size, 0, none⟩)) true ty).run Try.prog wr = _ := fun ty => Lib.run_next_end_at wr w.heap.size s pos ty IT.out hp
      go_wp2
      go_ret
      rw [all_end s pos hp A.out]
      exact ⟨rfl, BW.out⟩

set_option maxHeartbeats 400000 in
theorem begins_any (d : Int) (s : ByteArray) (w : World) :
    Calls Try.prog 16 #[.int .i64 d, .string s] w fun e w' => e = .returned (.bool (begL d s.data.toList)) ∧ Below w.heap.size w w' := by
  by_cases hd : Dia d
  · have D := Lib.hid hd.b
    go_enter Try.func16, Try.ntmps16
    go_wp2_with fail
    refine (brackets_yes d hd _).mono ?_
    rintro e w1 ⟨rfl, b1⟩
    have B1 := Lib.hid b1
    clear b1
    go_wp2_with fail
    refine (Try.strings_HasPrefix s (opA d) _).mono ?_
    rintro e w2 ⟨rfl, rfl⟩
    go_wp2_with fail
    go_ret
    refine ⟨ret_bool ?_, B1.out.alloc B1.out.size _⟩
    unfold begL
    rw [D.out]
    rfl
  · have D := Lib.hid (not_dia hd)
    go_enter Try.func16, Try.ntmps16
    go_wp2_with fail
    refine (brackets_no d hd _).mono ?_
    rintro e w1 ⟨rfl, b1⟩
    have B1 := Lib.hid b1
    clear b1
    go_wp2_with fail
    go_ret
    refine ⟨ret_bool ?_, B1.out.alloc B1.out.size _⟩
    unfold begL
    rw [D.out]
    rfl
end Go.Proofs.Ytejoilnlioekcaa
