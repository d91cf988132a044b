/-
  LexPasReads, walked.
-/
import Derived.Test.YtjdmaindoohmkaaDoorPRfg
namespace Go.Proofs.YtjdmaindoohmkaaDoor.P
open Go.RowKit Go.Sort

theorem refAll3 (s : ByteArray) (w : World) : Calls Tryd.prog 14 #[.int .i64 0, .string s] w (ToksB s (lexAll s) w) := by
  unfold lexAll
  split
  · rename_i hl; exact refAll_long s w hl
  · rename_i hl; exact refAll_any2 s w (by omega)
set_option maxHeartbeats 2000000 in
theorem lexPasReads_walk (s : ByteArray) (w : World) : Calls Tryd.prog 3 #[.string s] w fun e w' => e = .returned (.bool true) ∧ Below w.heap.size w w' := by
  by_cases hl : 70000 < s.size
  · have d : decide ((70000 : Int) < (s.size : Int)) = true := by simp; omega
    go_enter Tryd.func3, Tryd.ntmps3
    go_wp2_with fail
    refine (awake_any _).mono ?_
    rintro e w1 ⟨rfl, b1⟩
    have B1 := Lib.hid b1
    clear b1
    go_wp2_with fail
    go_ret
    exact ⟨rfl, B1.out⟩
  · have d : decide ((70000 : Int) < (s.size : Int)) = false := by simp; omega
    generalize hR : lexAll s = R
    have HR := Lib.hid hR
    clear hR
    go_enter Tryd.func3, Tryd.ntmps3
    go_wp2_with fail
    refine (lex_any s _).mono ?_
    unfold LexPost diagV
    rw [HR.out]
    rintro e w1 ⟨va, rfl, oa, b1⟩
    have OA := Lib.hid oa
    have B1 := Lib.hid b1
    clear oa b1
    go_wp2_with fail
    have OA2 := Lib.hid (OA.out.below ((Below.refl _ _).alloc (Nat.le_refl _) (.cells #[.int .i64 (R.code : Nat), .int .i64 (R.pos : Nat), .int .i64 (lineOf s R.pos : Nat), .int .i64 (colOf s R.pos : Nat)] 28)))
    have B2 := Lib.hid (B1.out.alloc B1.out.size (.cells #[.int .i64 (R.code : Nat), .int .i64 (R.pos : Nat), .int .i64 (lineOf s R.pos : Nat), .int .i64 (colOf s R.pos : Nat)] 28))
    have hd2 := heap_new w1 (.cells #[.int .i64 (R.code : Nat), .int .i64 (R.pos : Nat), .int .i64 (lineOf s R.pos : Nat), .int .i64 (colOf s R.pos : Nat)] 28)
    generalize w1.alloc (.cells #[.int .i64 (R.code : Nat), .int .i64 (R.pos : Nat), .int .i64 (lineOf s R.pos : Nat), .int .i64 (colOf s R.pos : Nat)] 28) = w2 at OA2 B2 hd2 ⊢
    have HD2 := Lib.hid hd2
    clear hd2 OA B1
    refine (refAll3 s _).mono ?_
    unfold ToksB diagV
    rw [HR.out]
    rintro e w3 ⟨vb, rfl, ob, b3⟩
    have OA3 := Lib.hid (OA2.out.below b3)
    have OB3 := Lib.hid ob
    have B3 := Lib.hid (B2.out.trans (b3.mono B2.out.size))
    have hd3 := (b3.block _ (heap_lt HD2.out)).trans HD2.out
    have x0 : w3.cell? ⟨w1.heap.size, 0, none⟩ = some (.int .i64 (R.code : Nat)) := by simp [World.cell?, hd3]
    have x1 : w3.cell? ⟨w1.heap.size, 1, none⟩ = some (.int .i64 (R.pos : Nat)) := by simp [World.cell?, hd3]
    have x2 : w3.cell? ⟨w1.heap.size, 2, none⟩ = some (.int .i64 (lineOf s R.pos : Nat)) := by simp [World.cell?, hd3]
    have x3 : w3.cell? ⟨w1.heap.size, 3, none⟩ = some (.int .i64 (colOf s R.pos : Nat)) := by simp [World.cell?, hd3]
    have hl3 : w1.heap.size < w3.heap.size := heap_lt hd3
    clear ob b3 OA2 B2 HD2 hd3
    go_wp2_with fail
    refine (same_yes va vb R.toks _ (OA3.out.below ((Below.refl _ _).alloc (Nat.le_refl _) _)).toks (OB3.out.below ((Below.refl _ _).alloc (Nat.le_refl _) _)).toks).mono ?_
    rintro e w4 ⟨rfl, n, rfl⟩
    go_wp2_with fail
    refine (awake_any _).mono ?_
    rintro e w5 ⟨rfl, b5⟩
    have B5 := Lib.hid ((below_drewN (B3.out.alloc B3.out.size (.cells #[.int .i64 (R.code : Nat), .int .i64 (R.pos : Nat), .int .i64 (lineOf s R.pos : Nat), .int .i64 (colOf s R.pos : Nat)] 28)) n).trans (b5.mono (below_drewN (B3.out.alloc B3.out.size (.cells #[.int .i64 (R.code : Nat), .int .i64 (R.pos : Nat), .int .i64 (lineOf s R.pos : Nat), .int .i64 (colOf s R.pos : Nat)] 28)) n).size))
    clear b5
    go_wp2_with fail
    go_ret
    exact ⟨rfl, B5.out⟩
end Go.Proofs.YtjdmaindoohmkaaDoor.P
