/-
  LexCeeReads, walked.
-/
import Derived.Test.YtjdmaindoohmkaaGreatDoorRfg
namespace Go.Proofs.YtjdmaindoohmkaaGreatDoor
open Go.RowKit Go.Sort

theorem refAll3 (s : ByteArray) (w : World) : Calls Tryz.prog 11 #[.int .i64 1, .string s] w (ToksB s (lexAll s) w) := by
  unfold lexAll
  split
  · rename_i hl; exact refAll_long s w hl
  · rename_i hl; exact refAll_any2 s w (by omega)
set_option maxHeartbeats 1000000 in
theorem refAll6 (s : ByteArray) (w : World) : Calls Tryz.prog 6 #[.string s] w (ToksB s (lexAll s) w) := by
  unfold ToksB diagV
  generalize hR : lexAll s = R
  have HR := Lib.hid hR
  clear hR
  go_enter Tryz.func6, Tryz.ntmps6
  go_wp2_with fail
  have hd0 := heap_new w (.cells #[.int .i64 0, .int .i64 0, .int .i64 0, .int .i64 0] 28)
  have B0 := Lib.hid (show Below w.heap.size w (w.alloc (.cells #[.int .i64 0, .int .i64 0, .int .i64 0, .int .i64 0] 28)) from (Below.refl _ _).alloc (Nat.le_refl _) _)
  generalize w.alloc (.cells #[.int .i64 0, .int .i64 0, .int .i64 0, .int .i64 0] 28) = w0 at hd0 B0 ⊢
  have hlt0 := heap_lt hd0
  have HD0 := Lib.hid hd0
  clear hd0
  refine (refAll3 s w0).mono ?_
  unfold ToksB diagV
  rw [HR.out]
  rintro e w3 ⟨v, rfl, o3, b3⟩
  have hd3 : w3.heap[w.heap.size]? = some (.cells #[.int .i64 0, .int .i64 0, .int .i64 0, .int .i64 0] 28) := (b3.block _ hlt0).trans HD0.out
  have z0 : w3.cell? ⟨w.heap.size, 0, none⟩ = some (.int .i64 0) := by simp [World.cell?, hd3]
  have z1 : w3.cell? ⟨w.heap.size, 1, none⟩ = some (.int .i64 0) := by simp [World.cell?, hd3]
  have z2 : w3.cell? ⟨w.heap.size, 2, none⟩ = some (.int .i64 0) := by simp [World.cell?, hd3]
  have z3 : w3.cell? ⟨w.heap.size, 3, none⟩ = some (.int .i64 0) := by simp [World.cell?, hd3]
  have zf : ∀ o, w3.frozen? ⟨w.heap.size, o, none⟩ = false := fun o => by simp [World.frozen?, hd3]
  have O3 := Lib.hid o3
  have B3 := Lib.hid (B0.out.trans (b3.mono B0.out.size))
  have hz0 : w.heap.size + 1 ≤ w0.heap.size := hlt0
  clear o3 b3 hd3
  go_wp2_with fail
  refine bodyPost_ret (v := .tuple #[v, .agg #[.int .i64 (R.code : Nat), .int .i64 (R.pos : Nat), .int .i64 (lineOf s R.pos : Nat), .int .i64 (colOf s R.pos : Nat)]]) (by simp [results, Tryz.results6, go_sem, z0, z1, z2, z3]) rfl ⟨v, rfl, ?_, (((B3.out.setCell (Nat.le_refl _) _).setCell (Nat.le_refl _) _).setCell (Nat.le_refl _) _).setCell (Nat.le_refl _) _⟩
  refine OwnT.kept (O3.out.mono (by omega)) fun b hb => ?_
  have hb1 := (O3.out.lt b hb).1
  rw [Below.heap_setCell _ _ _ _ (by simp; omega), Below.heap_setCell _ _ _ _ (by simp; omega), Below.heap_setCell _ _ _ _ (by simp; omega), Below.heap_setCell _ _ _ _ (by simp; omega)]
set_option maxHeartbeats 2000000 in
theorem lexCeeReads_walk (s : ByteArray) (w : World) (hv : VarOk w) : Calls Tryz.prog 3 #[.string s] w fun e w' => e = .returned (.bool true) ∧ Below w.heap.size w w' := by
  have HV := Lib.hid hv
  clear hv
  by_cases hl : 70000 < s.size
  · have d : decide ((70000 : Int) < (s.size : Int)) = true := by simp; omega
    go_enter Tryz.func3, Tryz.ntmps3
    go_wp2_with fail
    refine (awake_any _ HV.out).mono ?_
    rintro e w1 ⟨rfl, b1⟩
    have B1 := Lib.hid b1
    clear b1
    go_wp2_with fail
    go_ret
    exact ⟨rfl, B1.out⟩
  · have d : decide ((70000 : Int) < (s.size : Int)) = false := by simp; omega
    generalize hR : lexAll s = R
    have HR := Lib.hid hR
    clear hR
    go_enter Tryz.func3, Tryz.ntmps3
    go_wp2_with fail
    refine (lex_any s _ HV.out).mono ?_
    unfold LexPost diagV
    rw [HR.out]
    rintro e w1 ⟨va, rfl, oa, b1⟩
    have OA := Lib.hid oa
    have B1 := Lib.hid b1
    clear oa b1
    go_wp2_with fail
    have OA2 := Lib.hid (OA.out.below ((Below.refl _ _).alloc (Nat.le_refl _) (.cells #[.int .i64 (R.code : Nat), .int .i64 (R.pos : Nat), .int .i64 (lineOf s R.pos : Nat), .int .i64 (colOf s R.pos : Nat)] 28)))
    have B2 := Lib.hid (B1.out.alloc B1.out.size (.cells #[.int .i64 (R.code : Nat), .int .i64 (R.pos : Nat), .int .i64 (lineOf s R.pos : Nat), .int .i64 (colOf s R.pos : Nat)] 28))
    have hd2 := heap_new w1 (.cells #[.int .i64 (R.code : Nat), .int .i64 (R.pos : Nat), .int .i64 (lineOf s R.pos : Nat), .int .i64 (colOf s R.pos : Nat)] 28)
    generalize w1.alloc (.cells #[.int .i64 (R.code : Nat), .int .i64 (R.pos : Nat), .int .i64 (lineOf s R.pos : Nat), .int .i64 (colOf s R.pos : Nat)] 28) = w2 at OA2 B2 hd2 ⊢
    have HD2 := Lib.hid hd2
    clear hd2 OA B1
    refine (refAll6 s _).mono ?_
    unfold ToksB diagV
    rw [HR.out]
    rintro e w3 ⟨vb, rfl, ob, b3⟩
    have OA3 := Lib.hid (OA2.out.below b3)
    have OB3 := Lib.hid ob
    have B3 := Lib.hid (B2.out.trans (b3.mono B2.out.size))
    have hd3 := (b3.block _ (heap_lt HD2.out)).trans HD2.out
    have x0 : w3.cell? ⟨w1.heap.size, 0, none⟩ = some (.int .i64 (R.code : Nat)) := by simp [World.cell?, hd3]
    have x1 : w3.cell? ⟨w1.heap.size, 1, none⟩ = some (.int .i64 (R.pos : Nat)) := by simp [World.cell?, hd3]
    have x2 : w3.cell? ⟨w1.heap.size, 2, none⟩ = some (.int .i64 (lineOf s R.pos : Nat)) := by simp [World.cell?, hd3]
    have x3 : w3.cell? ⟨w1.heap.size, 3, none⟩ = some (.int .i64 (colOf s R.pos : Nat)) := by simp [World.cell?, hd3]
    have hl3 : w1.heap.size < w3.heap.size := heap_lt hd3
    clear ob b3 OA2 B2 HD2 hd3
    go_wp2_with fail
    refine (same_yes va vb R.toks _ (OA3.out.below ((Below.refl _ _).alloc (Nat.le_refl _) _)).toks (OB3.out.below ((Below.refl _ _).alloc (Nat.le_refl _) _)).toks).mono ?_
    rintro e w4 ⟨rfl, n, rfl⟩
    go_wp2_with fail
    have HV8 := HV.out.below (B3.out.alloc B3.out.size (.cells #[.int .i64 (R.code : Nat), .int .i64 (R.pos : Nat), .int .i64 (lineOf s R.pos : Nat), .int .i64 (colOf s R.pos : Nat)] 28))
    have HV9 : VarOk ((w3.alloc (.cells #[.int .i64 (R.code : Nat), .int .i64 (R.pos : Nat), .int .i64 (lineOf s R.pos : Nat), .int .i64 (colOf s R.pos : Nat)] 28)).drewN n) := ⟨HV8.syn, HV8.rng⟩
    refine (awake_any _ HV9).mono ?_
    clear HV8 HV9
    rintro e w5 ⟨rfl, b5⟩
    have B5 := Lib.hid ((below_drewN (B3.out.alloc B3.out.size (.cells #[.int .i64 (R.code : Nat), .int .i64 (R.pos : Nat), .int .i64 (lineOf s R.pos : Nat), .int .i64 (colOf s R.pos : Nat)] 28)) n).trans (b5.mono (below_drewN (B3.out.alloc B3.out.size (.cells #[.int .i64 (R.code : Nat), .int .i64 (R.pos : Nat), .int .i64 (lineOf s R.pos : Nat), .int .i64 (colOf s R.pos : Nat)] 28)) n).size))
    clear b5
    go_wp2_with fail
    go_ret
    exact ⟨rfl, B5.out⟩
end Go.Proofs.YtjdmaindoohmkaaGreatDoor
