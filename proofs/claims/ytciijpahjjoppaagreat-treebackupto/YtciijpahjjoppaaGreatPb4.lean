/-
  Texts of this proof, put together.
-/
import Derived.Test.YtciijpahjjoppaaGreatPb3
import Derived.Deep.RegionHeld3
section
namespace Go.Proofs.YtciijpahjjoppaaGreat
open Go.RowKit Go.Deep Go.Maps

def upD (d : Int) : List D → Bool
  | [.int op, .int n, .str nm, .str fd, .row l] => upE d op n nm fd l.length
  | _ => false
def callE (d n : Int) (nm fd : ByteArray) (l : List (List D)) (f : List D → Bool) : Bool := (n == 0) && (fd.toList.isEmpty && (okR d nm && (decide (l.length ≤ 512) && (okAll (l.take (firstU d l)) f && okAll (l.drop (firstU d l)) (upD d)))))
def formE (d op n : Int) (nm fd : ByteArray) (l : List (List D)) (f : List D → Bool) : Bool := fok op && (decide (0 ≤ n) && (decide (n ≤ fmost op) && (nameW d (fname op) nm && (nameW d (ffield op) fd && ((((l.length : Nat) : Int) == fops op) && okAll l f)))))
/-- What checker.expr answers; k: how many may yet stand within. -/
def okE (d : Int) : Nat → List D → Bool
  | 0, _ => false
  | k + 1, [.int op, .int n, .str nm, .str fd, .row l] => if op == 7 then callE d n nm fd l (okE d k) else formE d op n nm fd l (okE d k)
  | _ + 1, _ => false
theorem below_drew0 {B : Nat} {a w : World} (h : Below B a w) : Below B a w.drew := ⟨h.os, h.tape, h.output, h.size, h.block⟩
def Since (w W : World) : Prop := Below w.heap.size w W
theorem Since.step {w W W' : World} (h : Since w W) (b : Below W.heap.size W W') : Since w W' := Below.trans h (b.mono (Below.size h))
theorem cell_stays {W W' : World} {b i : Nat} {v : Value} (h : W.cell? ⟨b, i, none⟩ = some v) (k : Below W.heap.size W W') : W'.cell? ⟨b, i, none⟩ = some v := (k.cell (p := ⟨b, i, none⟩) (block_lt_of_cell h)).trans h
def ExS (w : World) (r : Nat) (d : Int) (ar : Nat) (op n : Int) (nm fd : ByteArray) (la : Option Addr) (l : List (List D)) (lc : Nat) (fm : Int) (fn ff : Bool) (fo : Int) (W : World) : Prop := W.cell? ⟨w.heap.size, 0, none⟩ = some (.int .i64 d) ∧ W.cell? ⟨w.heap.size, 1, none⟩ = some (.int .i64 ar) ∧ W.cell? ⟨w.heap.size + 1, 0, none⟩ = some (.int .i64 op) ∧ W.cell? ⟨w.heap.size + 1, 1, none⟩ = some (.int .i64 n) ∧ W.cell? ⟨w.heap.size + 1, 2, none⟩ = some (.string nm) ∧ W.cell? ⟨w.heap.size + 1, 3, none⟩ = some (.string fd) ∧ W.cell? ⟨w.heap.size + 1, 4, none⟩ = some (.slice la l.length lc) ∧ W.cell? ⟨r, 0, none⟩ = some (.int .i64 fm) ∧ W.cell? ⟨r, 1, none⟩ = some (.bool fn) ∧ W.cell? ⟨r, 2, none⟩ = some (.bool ff) ∧ W.cell? ⟨r, 3, none⟩ = some (.int .i64 fo) ∧ Since w W
theorem ExS.step {w : World} {r : Nat} {d : Int} {ar : Nat} {op n : Int} {nm fd : ByteArray} {la : Option Addr} {l : List (List D)} {lc : Nat} {fm : Int} {fn ff : Bool} {fo : Int} {W W' : World} (h : ExS w r d ar op n nm fd la l lc fm fn ff fo W) (b : Below W.heap.size W W') : ExS w r d ar op n nm fd la l lc fm fn ff fo W' := by
  obtain ⟨h1, h2, h3, h4, h5, h6, h7, h8, h9, h10, h11, h12⟩ := h
  exact ⟨cell_stays h1 b, cell_stays h2 b, cell_stays h3 b, cell_stays h4 b, cell_stays h5 b, cell_stays h6 b, cell_stays h7 b, cell_stays h8 b, cell_stays h9 b, cell_stays h10 b, cell_stays h11 b, h12.step b⟩
set_option maxRecDepth 100000 in
set_option maxHeartbeats 4000000 in
theorem expr_form (w0 : World) (d : Int) (ar k : Nat) (hk : ar + (k + 1) = 48) (op n : Int) (nm fd : ByteArray) (la : Option Addr) (l : List (List D)) (lc : Nat) (hop : (op == 7) = false) (hnm : nm.size ≤ maxLen) (hfd : fd.size ≤ maxLen) (hA : At w0 (.slice la l.length lc) (.row l)) (hs : ∀ x ∈ l, ShE x)
    (hf : OkFn w0 25 (.agg #[.int .i64 d, .int .i64 ((ar + 1 : Nat) : Int)]) l (okE d k)) (w : World) (hW : Below w0.heap.size w0 w) :
    Calls Tryz.prog 25 #[.agg #[.int .i64 d, .int .i64 ar], .agg #[.int .i64 op, .int .i64 n, .string nm, .string fd, .slice la l.length lc]] w fun e w' => e = .returned (.bool (formE d op n nm fd l (okE d k))) ∧ Below w.heap.size w w' := by
  have hdp : decide ((48 : Int) ≤ (ar : Int)) = false := by simp; omega
  have HL := Lib.hid (fun (W : World) (hW : Below w0.heap.size w0 W) => allE_any w0 25 (.agg #[.int .i64 d, .int .i64 ((ar + 1 : Nat) : Int)]) (okE d k) la l.length lc l hA hs hf (enters_of Tryz.func25 (by kernel_rfl) rfl) W hW)
  have HW := Lib.hid hW
  have KP := Lib.hid (box_first w (.cells #[.int .i64 d, .int .i64 ar] 51) (.cells #[.int .i64 op, .int .i64 n, .string nm, .string fd, .slice la l.length lc] 24))
  have KQ := Lib.hid (box_second w (.cells #[.int .i64 d, .int .i64 ar] 51) (.cells #[.int .i64 op, .int .i64 n, .string nm, .string fd, .slice la l.length lc] 24))
  have R0 := Lib.hid (((Below.refl w.heap.size w).alloc (Nat.le_refl _) (.cells #[.int .i64 d, .int .i64 ar] 51)).alloc (by simp) (.cells #[.int .i64 op, .int .i64 n, .string nm, .string fd, .slice la l.length lc] 24))
  clear hA hs hf hW
  go_enter Tryz.func25, Tryz.ntmps25
  go_wp2_with fail
  refine (tooDeep_any d ar _).mono ?_
  rintro e w1 ⟨rfl, hw1⟩
  have b1 := (Below.refl _ ((w.alloc (.cells #[.int .i64 d, .int .i64 ar] 51)).alloc (.cells #[.int .i64 op, .int .i64 n, .string nm, .string fd, .slice la l.length lc] 24))).alloc (Nat.le_refl _) (.cells #[.int .i64 d, .int .i64 ar] 51)
  rw [← hw1] at b1
  clear hw1
  have R1 := Lib.hid (R0.out.trans (b1.mono R0.out.size))
  have KP1 := Lib.hid ((b1.block _ (heap_lt KP.out)).trans KP.out)
  have KQ1 := Lib.hid ((b1.block _ (heap_lt KQ.out)).trans KQ.out)
  have cP1 := box_cells KP1.out
  have cQ1 := box_cells KQ1.out
  rw [hdp]
  clear b1
  go_wp2_with fail
  refine (exprForm_any op _).mono ?_
  rintro e w2 ⟨rfl, b2⟩
  have R2 := Lib.hid (R1.out.trans (b2.mono R1.out.size))
  have KP2 := Lib.hid ((b2.block _ (heap_lt KP1.out)).trans KP1.out)
  have KQ2 := Lib.hid ((b2.block _ (heap_lt KQ1.out)).trans KQ1.out)
  have cP2 := box_cells KP2.out
  have cQ2 := box_cells KQ2.out
  clear b2 cP1 cQ1
  have HO := Lib.hid (show formE d op n nm fd l (okE d k) = (fok op && (decide (0 ≤ n) && (decide (n ≤ fmost op) && (nameW d (fname op) nm && (nameW d (ffield op) fd && ((((l.length : Nat) : Int) == fops op) && okAll l (okE d k))))))) from rfl)
  generalize fmost op = fm at *
  generalize fname op = fn at *
  generalize ffield op = ff at *
  generalize fops op = fo at *
  generalize fok op = ok at *
  generalize okAll l (okE d k) = rl at *
  go_wp2_with fail
  have S0 := Lib.hid (show ExS w w2.heap.size d ar op n nm fd la l lc fm fn ff fo (w2.alloc (.cells #[.int .i64 fm, .bool fn, .bool ff, .int .i64 fo] 110)).drew from by
    have b3 := (Below.refl w2.heap.size w2).alloc (Nat.le_refl _) (.cells #[.int .i64 fm, .bool fn, .bool ff, .int .i64 fo] 110)
    have cP3 := box_cells ((b3.block _ (heap_lt KP2.out)).trans KP2.out)
    have cQ3 := box_cells ((b3.block _ (heap_lt KQ2.out)).trans KQ2.out)
    have cR3 := box_cells (heap_new w2 (.cells #[.int .i64 fm, .bool fn, .bool ff, .int .i64 fo] 110))
    exact ⟨cP3 0, cP3 1, cQ3 0, cQ3 1, cQ3 2, cQ3 3, cQ3 4, cR3 0, cR3 1, cR3 2, cR3 3, below_drew0 (R2.out.trans (b3.mono (Nat.le_trans (by omega) R2.out.size)))⟩)
  have DP := Lib.hid (show ∀ W, ExS w w2.heap.size d ar op n nm fd la l lc fm fn ff fo W → Calls Tryz.prog 65 #[.agg #[.int .i64 d, .int .i64 ar]] W fun e W' => e = .returned (.agg #[.int .i64 d, .int .i64 ((ar + 1 : Nat) : Int)]) ∧ ExS w w2.heap.size d ar op n nm fd la l lc fm fn ff fo W' from fun W hS => (deeper_any d ar W (by omega)).mono fun e W' h => ⟨h.1, hS.step h.2⟩)
  have AL := Lib.hid (show ∀ W, ExS w w2.heap.size d ar op n nm fd la l lc fm fn ff fo W → Calls Tryz.prog 64 #[.slice la l.length lc, .func (.func 25) #[.agg #[.int .i64 d, .int .i64 ((ar + 1 : Nat) : Int)]] #[]] W fun e W' => e = .returned (.bool rl) ∧ ExS w w2.heap.size d ar op n nm fd la l lc fm fn ff fo W' from fun W hS => (HL.out W (HW.out.trans (Below.mono hS.2.2.2.2.2.2.2.2.2.2.2 HW.out.size))).mono fun e W' h => ⟨h.1, hS.step h.2⟩)
  have N1 := Lib.hid (show ∀ W, ExS w w2.heap.size d ar op n nm fd la l lc fm fn ff fo W → Calls Tryz.prog 63 #[.agg #[.int .i64 d, .int .i64 ar], .bool fn, .string nm] W fun e W' => e = .returned (.bool (nameW d fn nm)) ∧ ExS w w2.heap.size d ar op n nm fd la l lc fm fn ff fo W' from fun W hS => (nameWhere_any d ar fn nm W hnm).mono fun e W' h => ⟨h.1, hS.step h.2⟩)
  have N2 := Lib.hid (show ∀ W, ExS w w2.heap.size d ar op n nm fd la l lc fm fn ff fo W → Calls Tryz.prog 63 #[.agg #[.int .i64 d, .int .i64 ar], .bool ff, .string fd] W fun e W' => e = .returned (.bool (nameW d ff fd)) ∧ ExS w w2.heap.size d ar op n nm fd la l lc fm fn ff fo W' from fun W hS => (nameWhere_any d ar ff fd W hfd).mono fun e W' h => ⟨h.1, hS.step h.2⟩)
  clear HL HW KP KQ R0 R1 KP1 KQ1 R2 KP2 KQ2 cP2 cQ2
  generalize (w2.alloc (.cells #[.int .i64 fm, .bool fn, .bool ff, .int .i64 fo] 110)) = w3 at *
  generalize w2.heap.size = r at *
  generalize hn1 : nameW d fn nm = n1 at *
  generalize hn2 : nameW d ff fd = n2 at *
  clear hn1 hn2
  refine wp_region_held (S := fun w' => w'.cell? ⟨w.heap.size, 0, none⟩ = some (.int .i64 d) ∧ w'.cell? ⟨w.heap.size, 1, none⟩ = some (.int .i64 ar) ∧ w'.cell? ⟨w.heap.size + 1, 0, none⟩ = some (.int .i64 op) ∧ w'.cell? ⟨w.heap.size + 1, 1, none⟩ = some (.int .i64 n) ∧ w'.cell? ⟨w.heap.size + 1, 2, none⟩ = some (.string nm) ∧ w'.cell? ⟨w.heap.size + 1, 3, none⟩ = some (.string fd) ∧ w'.cell? ⟨w.heap.size + 1, 4, none⟩ = some (.slice la l.length lc) ∧ w'.cell? ⟨r, 0, none⟩ = some (.int .i64 fm) ∧ w'.cell? ⟨r, 1, none⟩ = some (.bool fn) ∧ w'.cell? ⟨r, 2, none⟩ = some (.bool ff) ∧ w'.cell? ⟨r, 3, none⟩ = some (.int .i64 fo) ∧ Since w w') (by kernel_rfl) ?_
  have hHeld := S0.out
  change (fun w' => w'.cell? ⟨w.heap.size, 0, none⟩ = some (.int .i64 d) ∧ w'.cell? ⟨w.heap.size, 1, none⟩ = some (.int .i64 ar) ∧ w'.cell? ⟨w.heap.size + 1, 0, none⟩ = some (.int .i64 op) ∧ w'.cell? ⟨w.heap.size + 1, 1, none⟩ = some (.int .i64 n) ∧ w'.cell? ⟨w.heap.size + 1, 2, none⟩ = some (.string nm) ∧ w'.cell? ⟨w.heap.size + 1, 3, none⟩ = some (.string fd) ∧ w'.cell? ⟨w.heap.size + 1, 4, none⟩ = some (.slice la l.length lc) ∧ w'.cell? ⟨r, 0, none⟩ = some (.int .i64 fm) ∧ w'.cell? ⟨r, 1, none⟩ = some (.bool fn) ∧ w'.cell? ⟨r, 2, none⟩ = some (.bool ff) ∧ w'.cell? ⟨r, 3, none⟩ = some (.int .i64 fo) ∧ Since w w') _ at hHeld
  cases ok with
  | false =>
    refine wpAnyH_take (i := 0) (oi := ⟨some 21, .move (.tmp 6), 4, "check.go:251", #[], none⟩) (v := ?v0_1) rfl (by kernel_rfl) (by kernel_rfl) (by kernel_rfl) (fun _ _ _ h => h) (Or.inl ⟨by rfl, ?hy0_1⟩) hHeld ?rest0_1
    case hy0_1 => (intro W hSW; (try dsimp only at hSW); go_simp; try with_reducible rfl)
    try simp only [Act.put, List.setIfInBounds_toArray, List.set_cons_zero, List.set_cons_succ]
    refine wpAnyH_take (i := 1) (oi := ⟨some 22, .move (.tmp 21), 4, "check.go:251", #[⟨0, .data⟩], none⟩) (v := ?v1_2) rfl (by kernel_rfl) (by kernel_rfl) (by kernel_rfl) (fun _ _ _ h => h) (Or.inl ⟨by rfl, ?hy1_2⟩) hHeld ?rest1_2
    case hy1_2 => (intro W hSW; (try dsimp only at hSW); go_simp; try with_reducible rfl)
    try simp only [Act.put, List.setIfInBounds_toArray, List.set_cons_zero, List.set_cons_succ]
    refine wpAnyH_take (i := 2) (oi := ⟨some 23, .fieldAddr 24 (.tmp 3) 1, 0, "check.go:251", #[⟨1, .guard⟩], some (1, true)⟩) (v := undef) rfl (by kernel_rfl) (by kernel_rfl) (by kernel_rfl) (fun _ _ _ h => h) (Or.inr ⟨by rfl, rfl⟩) hHeld ?_
    try simp only [Act.put, List.setIfInBounds_toArray, List.set_cons_zero, List.set_cons_succ]
    refine wpAnyH_take (i := 3) (oi := ⟨some 24, .load 2 (.tmp 23), 2, "check.go:251", #[⟨2, .data⟩, ⟨1, .guard⟩], some (1, true)⟩) (v := undef) rfl (by kernel_rfl) (by kernel_rfl) (by kernel_rfl) (fun _ _ _ h => h) (Or.inr ⟨by rfl, rfl⟩) hHeld ?_
    try simp only [Act.put, List.setIfInBounds_toArray, List.set_cons_zero, List.set_cons_succ]
    refine wpAnyH_take (i := 4) (oi := ⟨some 25, .binOp .leq 2 (.const (.int .i64 0)) (.tmp 24) 2, 4, "check.go:251", #[⟨3, .data⟩, ⟨1, .guard⟩], some (1, true)⟩) (v := undef) rfl (by kernel_rfl) (by kernel_rfl) (by kernel_rfl) (fun _ _ _ h => h) (Or.inr ⟨by rfl, rfl⟩) hHeld ?_
    try simp only [Act.put, List.setIfInBounds_toArray, List.set_cons_zero, List.set_cons_succ]
    refine wpAnyH_take (i := 5) (oi := ⟨some 26, .pick (.tmp 22) (.tmp 25) (.const (.bool false)), 4, "check.go:251", #[⟨1, .data⟩, ⟨4, .data⟩], none⟩) (v := ?v5_3) rfl (by kernel_rfl) (by kernel_rfl) (by kernel_rfl) (fun _ _ _ h => h) (Or.inl ⟨by rfl, ?hy5_3⟩) hHeld ?rest5_3
    case hy5_3 => (intro W hSW; (try dsimp only at hSW); go_simp; try with_reducible rfl)
    try simp only [Act.put, List.setIfInBounds_toArray, List.set_cons_zero, List.set_cons_succ]
    refine wpAnyH_take (i := 6) (oi := ⟨some 27, .move (.tmp 26), 4, "check.go:251", #[⟨5, .data⟩, ⟨1, .chain⟩], none⟩) (v := ?v6_4) rfl (by kernel_rfl) (by kernel_rfl) (by kernel_rfl) (fun _ _ _ h => h) (Or.inl ⟨by rfl, ?hy6_4⟩) hHeld ?rest6_4
    case hy6_4 => (intro W hSW; (try dsimp only at hSW); go_simp; try with_reducible rfl)
    try simp only [Act.put, List.setIfInBounds_toArray, List.set_cons_zero, List.set_cons_succ]
    refine wpAnyH_take (i := 7) (oi := ⟨some 28, .fieldAddr 24 (.tmp 3) 1, 0, "check.go:251", #[⟨6, .guard⟩], some (6, true)⟩) (v := undef) rfl (by kernel_rfl) (by kernel_rfl) (by kernel_rfl) (fun _ _ _ h => h) (Or.inr ⟨by rfl, rfl⟩) hHeld ?_
    try simp only [Act.put, List.setIfInBounds_toArray, List.set_cons_zero, List.set_cons_succ]
    refine wpAnyH_take (i := 8) (oi := ⟨some 29, .load 2 (.tmp 28), 2, "check.go:251", #[⟨7, .data⟩, ⟨6, .guard⟩], some (6, true)⟩) (v := undef) rfl (by kernel_rfl) (by kernel_rfl) (by kernel_rfl) (fun _ _ _ h => h) (Or.inr ⟨by rfl, rfl⟩) hHeld ?_
    try simp only [Act.put, List.setIfInBounds_toArray, List.set_cons_zero, List.set_cons_succ]
    refine wpAnyH_take (i := 9) (oi := ⟨some 30, .fieldAddr 110 (.tmp 5) 0, 0, "check.go:251", #[⟨6, .guard⟩], some (6, true)⟩) (v := undef) rfl (by kernel_rfl) (by kernel_rfl) (by kernel_rfl) (fun _ _ _ h => h) (Or.inr ⟨by rfl, rfl⟩) hHeld ?_
    try simp only [Act.put, List.setIfInBounds_toArray, List.set_cons_zero, List.set_cons_succ]
    refine wpAnyH_take (i := 10) (oi := ⟨some 31, .load 2 (.tmp 30), 2, "check.go:251", #[⟨9, .data⟩, ⟨6, .guard⟩], some (6, true)⟩) (v := undef) rfl (by kernel_rfl) (by kernel_rfl) (by kernel_rfl) (fun _ _ _ h => h) (Or.inr ⟨by rfl, rfl⟩) hHeld ?_
    try simp only [Act.put, List.setIfInBounds_toArray, List.set_cons_zero, List.set_cons_succ]
    refine wpAnyH_take (i := 11) (oi := ⟨some 32, .binOp .leq 2 (.tmp 29) (.tmp 31) 2, 4, "check.go:251", #[⟨8, .data⟩, ⟨10, .data⟩, ⟨6, .guard⟩], some (6, true)⟩) (v := undef) rfl (by kernel_rfl) (by kernel_rfl) (by kernel_rfl) (fun _ _ _ h => h) (Or.inr ⟨by rfl, rfl⟩) hHeld ?_
    try simp only [Act.put, List.setIfInBounds_toArray, List.set_cons_zero, List.set_cons_succ]
    refine wpAnyH_take (i := 12) (oi := ⟨some 33, .pick (.tmp 27) (.tmp 32) (.const (.bool false)), 4, "check.go:251", #[⟨6, .data⟩, ⟨11, .data⟩], none⟩) (v := ?v12_5) rfl (by kernel_rfl) (by kernel_rfl) (by kernel_rfl) (fun _ _ _ h => h) (Or.inl ⟨by rfl, ?hy12_5⟩) hHeld ?rest12_5
    case hy12_5 => (intro W hSW; (try dsimp only at hSW); go_simp; try with_reducible rfl)
    try simp only [Act.put, List.setIfInBounds_toArray, List.set_cons_zero, List.set_cons_succ]
    refine wpAnyH_take (i := 13) (oi := ⟨some 34, .move (.tmp 33), 4, "check.go:251", #[⟨12, .data⟩, ⟨6, .chain⟩], none⟩) (v := ?v13_6) rfl (by kernel_rfl) (by kernel_rfl) (by kernel_rfl) (fun _ _ _ h => h) (Or.inl ⟨by rfl, ?hy13_6⟩) hHeld ?rest13_6
    case hy13_6 => (intro W hSW; (try dsimp only at hSW); go_simp; try with_reducible rfl)
    try simp only [Act.put, List.setIfInBounds_toArray, List.set_cons_zero, List.set_cons_succ]
    refine wpAnyH_take (i := 14) (oi := ⟨some 35, .load 51 (.tmp 2), 51, "check.go:251", #[⟨13, .guard⟩], some (13, true)⟩) (v := undef) rfl (by kernel_rfl) (by kernel_rfl) (by kernel_rfl) (fun _ _ _ h => h) (Or.inr ⟨by rfl, rfl⟩) hHeld ?_
    try simp only [Act.put, List.setIfInBounds_toArray, List.set_cons_zero, List.set_cons_succ]
    refine wpAnyH_take (i := 15) (oi := ⟨some 36, .fieldAddr 110 (.tmp 5) 1, 0, "check.go:251", #[⟨13, .guard⟩], some (13, true)⟩) (v := undef) rfl (by kernel_rfl) (by kernel_rfl) (by kernel_rfl) (fun _ _ _ h => h) (Or.inr ⟨by rfl, rfl⟩) hHeld ?_
    try simp only [Act.put, List.setIfInBounds_toArray, List.set_cons_zero, List.set_cons_succ]
    refine wpAnyH_take (i := 16) (oi := ⟨some 37, .load 4 (.tmp 36), 4, "check.go:251", #[⟨15, .data⟩, ⟨13, .guard⟩], some (13, true)⟩) (v := undef) rfl (by kernel_rfl) (by kernel_rfl) (by kernel_rfl) (fun _ _ _ h => h) (Or.inr ⟨by rfl, rfl⟩) hHeld ?_
    try simp only [Act.put, List.setIfInBounds_toArray, List.set_cons_zero, List.set_cons_succ]
    refine wpAnyH_take (i := 17) (oi := ⟨some 38, .fieldAddr 24 (.tmp 3) 2, 0, "check.go:251", #[⟨13, .guard⟩], some (13, true)⟩) (v := undef) rfl (by kernel_rfl) (by kernel_rfl) (by kernel_rfl) (fun _ _ _ h => h) (Or.inr ⟨by rfl, rfl⟩) hHeld ?_
    try simp only [Act.put, List.setIfInBounds_toArray, List.set_cons_zero, List.set_cons_succ]
    refine wpAnyH_take (i := 18) (oi := ⟨some 39, .load 9 (.tmp 38), 9, "check.go:251", #[⟨17, .data⟩, ⟨13, .guard⟩], some (13, true)⟩) (v := undef) rfl (by kernel_rfl) (by kernel_rfl) (by kernel_rfl) (fun _ _ _ h => h) (Or.inr ⟨by rfl, rfl⟩) hHeld ?_
    try simp only [Act.put, List.setIfInBounds_toArray, List.set_cons_zero, List.set_cons_succ]
    refine wpAnyH_ready (rs := [19]) (by kernel_rfl) (by simp) ?_
    refine AllReadyH.cons (o := ⟨some 40, .call { callee := .value (.func 63), args := #[.tmp 35, .tmp 37, .tmp 39], argTypes := #[51, 4, 9] }, 4, "check.go:252", #[⟨14, .data⟩, ⟨16, .data⟩, ⟨18, .data⟩, ⟨13, .chain⟩, ⟨13, .guard⟩], some (13, true)⟩) rfl (fun K hK => ?_) AllReadyH.nil
    go_simp
    refine hK.out _ _ hHeld (fun _ => ?_)
    clear hK K
    try simp only [Act.put, List.setIfInBounds_toArray, List.set_cons_zero, List.set_cons_succ]
    refine wpAnyH_take (i := 20) (oi := ⟨some 41, .pick (.tmp 34) (.tmp 40) (.const (.bool false)), 4, "check.go:251", #[⟨13, .data⟩, ⟨19, .data⟩], none⟩) (v := ?v20_7) rfl (by kernel_rfl) (by kernel_rfl) (by kernel_rfl) (fun _ _ _ h => h) (Or.inl ⟨by rfl, ?hy20_7⟩) hHeld ?rest20_7
    case hy20_7 => (intro W hSW; (try dsimp only at hSW); go_simp; try with_reducible rfl)
    try simp only [Act.put, List.setIfInBounds_toArray, List.set_cons_zero, List.set_cons_succ]
    refine wpAnyH_take (i := 21) (oi := ⟨some 42, .move (.tmp 41), 4, "check.go:251", #[⟨20, .data⟩, ⟨19, .chain⟩], none⟩) (v := ?v21_8) rfl (by kernel_rfl) (by kernel_rfl) (by kernel_rfl) (fun _ _ _ h => h) (Or.inl ⟨by rfl, ?hy21_8⟩) hHeld ?rest21_8
    case hy21_8 => (intro W hSW; (try dsimp only at hSW); go_simp; try with_reducible rfl)
    try simp only [Act.put, List.setIfInBounds_toArray, List.set_cons_zero, List.set_cons_succ]
    refine wpAnyH_take (i := 22) (oi := ⟨some 43, .load 51 (.tmp 2), 51, "check.go:251", #[⟨21, .guard⟩], some (21, true)⟩) (v := undef) rfl (by kernel_rfl) (by kernel_rfl) (by kernel_rfl) (fun _ _ _ h => h) (Or.inr ⟨by rfl, rfl⟩) hHeld ?_
    try simp only [Act.put, List.setIfInBounds_toArray, List.set_cons_zero, List.set_cons_succ]
    refine wpAnyH_take (i := 23) (oi := ⟨some 44, .fieldAddr 110 (.tmp 5) 2, 0, "check.go:251", #[⟨21, .guard⟩], some (21, true)⟩) (v := undef) rfl (by kernel_rfl) (by kernel_rfl) (by kernel_rfl) (fun _ _ _ h => h) (Or.inr ⟨by rfl, rfl⟩) hHeld ?_
    try simp only [Act.put, List.setIfInBounds_toArray, List.set_cons_zero, List.set_cons_succ]
    refine wpAnyH_take (i := 24) (oi := ⟨some 45, .load 4 (.tmp 44), 4, "check.go:251", #[⟨23, .data⟩, ⟨21, .guard⟩], some (21, true)⟩) (v := undef) rfl (by kernel_rfl) (by kernel_rfl) (by kernel_rfl) (fun _ _ _ h => h) (Or.inr ⟨by rfl, rfl⟩) hHeld ?_
    try simp only [Act.put, List.setIfInBounds_toArray, List.set_cons_zero, List.set_cons_succ]
    refine wpAnyH_take (i := 25) (oi := ⟨some 46, .fieldAddr 24 (.tmp 3) 3, 0, "check.go:251", #[⟨21, .guard⟩], some (21, true)⟩) (v := undef) rfl (by kernel_rfl) (by kernel_rfl) (by kernel_rfl) (fun _ _ _ h => h) (Or.inr ⟨by rfl, rfl⟩) hHeld ?_
    try simp only [Act.put, List.setIfInBounds_toArray, List.set_cons_zero, List.set_cons_succ]
    refine wpAnyH_take (i := 26) (oi := ⟨some 47, .load 9 (.tmp 46), 9, "check.go:251", #[⟨25, .data⟩, ⟨21, .guard⟩], some (21, true)⟩) (v := undef) rfl (by kernel_rfl) (by kernel_rfl) (by kernel_rfl) (fun _ _ _ h => h) (Or.inr ⟨by rfl, rfl⟩) hHeld ?_
    try simp only [Act.put, List.setIfInBounds_toArray, List.set_cons_zero, List.set_cons_succ]
    refine wpAnyH_ready (rs := [27]) (by kernel_rfl) (by simp) ?_
    refine AllReadyH.cons (o := ⟨some 48, .call { callee := .value (.func 63), args := #[.tmp 43, .tmp 45, .tmp 47], argTypes := #[51, 4, 9] }, 4, "check.go:252", #[⟨22, .data⟩, ⟨24, .data⟩, ⟨26, .data⟩, ⟨21, .chain⟩, ⟨21, .guard⟩], some (21, true)⟩) rfl (fun K hK => ?_) AllReadyH.nil
    go_simp
    refine hK.out _ _ hHeld (fun _ => ?_)
    clear hK K
    try simp only [Act.put, List.setIfInBounds_toArray, List.set_cons_zero, List.set_cons_succ]
    refine wpAnyH_take (i := 28) (oi := ⟨some 49, .pick (.tmp 42) (.tmp 48) (.const (.bool false)), 4, "check.go:251", #[⟨21, .data⟩, ⟨27, .data⟩], none⟩) (v := ?v28_9) rfl (by kernel_rfl) (by kernel_rfl) (by kernel_rfl) (fun _ _ _ h => h) (Or.inl ⟨by rfl, ?hy28_9⟩) hHeld ?rest28_9
    case hy28_9 => (intro W hSW; (try dsimp only at hSW); go_simp; try with_reducible rfl)
    try simp only [Act.put, List.setIfInBounds_toArray, List.set_cons_zero, List.set_cons_succ]
    refine wpAnyH_take (i := 29) (oi := ⟨some 50, .move (.tmp 49), 4, "check.go:251", #[⟨28, .data⟩, ⟨27, .chain⟩], none⟩) (v := ?v29_10) rfl (by kernel_rfl) (by kernel_rfl) (by kernel_rfl) (fun _ _ _ h => h) (Or.inl ⟨by rfl, ?hy29_10⟩) hHeld ?rest29_10
    case hy29_10 => (intro W hSW; (try dsimp only at hSW); go_simp; try with_reducible rfl)
    try simp only [Act.put, List.setIfInBounds_toArray, List.set_cons_zero, List.set_cons_succ]
    refine wpAnyH_take (i := 30) (oi := ⟨some 51, .fieldAddr 24 (.tmp 3) 4, 0, "check.go:251", #[⟨29, .guard⟩], some (29, true)⟩) (v := undef) rfl (by kernel_rfl) (by kernel_rfl) (by kernel_rfl) (fun _ _ _ h => h) (Or.inr ⟨by rfl, rfl⟩) hHeld ?_
    try simp only [Act.put, List.setIfInBounds_toArray, List.set_cons_zero, List.set_cons_succ]
    refine wpAnyH_take (i := 31) (oi := ⟨some 52, .load 22 (.tmp 51), 22, "check.go:251", #[⟨30, .data⟩, ⟨29, .guard⟩], some (29, true)⟩) (v := undef) rfl (by kernel_rfl) (by kernel_rfl) (by kernel_rfl) (fun _ _ _ h => h) (Or.inr ⟨by rfl, rfl⟩) hHeld ?_
    try simp only [Act.put, List.setIfInBounds_toArray, List.set_cons_zero, List.set_cons_succ]
    refine wpAnyH_take (i := 32) (oi := ⟨some 53, .call { callee := .builtin .len, args := #[.tmp 52], argTypes := #[22] }, 3, "check.go:251", #[⟨31, .data⟩, ⟨29, .guard⟩], some (29, true)⟩) (v := undef) rfl (by kernel_rfl) (by kernel_rfl) (by kernel_rfl) (fun _ _ _ h => h) (Or.inr ⟨by rfl, rfl⟩) hHeld ?_
    try simp only [Act.put, List.setIfInBounds_toArray, List.set_cons_zero, List.set_cons_succ]
    refine wpAnyH_take (i := 33) (oi := ⟨some 54, .fieldAddr 110 (.tmp 5) 3, 0, "check.go:251", #[⟨29, .guard⟩], some (29, true)⟩) (v := undef) rfl (by kernel_rfl) (by kernel_rfl) (by kernel_rfl) (fun _ _ _ h => h) (Or.inr ⟨by rfl, rfl⟩) hHeld ?_
    try simp only [Act.put, List.setIfInBounds_toArray, List.set_cons_zero, List.set_cons_succ]
    refine wpAnyH_take (i := 34) (oi := ⟨some 55, .load 3 (.tmp 54), 3, "check.go:251", #[⟨33, .data⟩, ⟨29, .guard⟩], some (29, true)⟩) (v := undef) rfl (by kernel_rfl) (by kernel_rfl) (by kernel_rfl) (fun _ _ _ h => h) (Or.inr ⟨by rfl, rfl⟩) hHeld ?_
    try simp only [Act.put, List.setIfInBounds_toArray, List.set_cons_zero, List.set_cons_succ]
    refine wpAnyH_take (i := 35) (oi := ⟨some 56, .binOp .eql 3 (.tmp 53) (.tmp 55) 3, 4, "check.go:251", #[⟨32, .data⟩, ⟨34, .data⟩, ⟨29, .guard⟩], some (29, true)⟩) (v := undef) rfl (by kernel_rfl) (by kernel_rfl) (by kernel_rfl) (fun _ _ _ h => h) (Or.inr ⟨by rfl, rfl⟩) hHeld ?_
    try simp only [Act.put, List.setIfInBounds_toArray, List.set_cons_zero, List.set_cons_succ]
    refine wpAnyH_take (i := 36) (oi := ⟨some 57, .pick (.tmp 50) (.tmp 56) (.const (.bool false)), 4, "check.go:251", #[⟨29, .data⟩, ⟨35, .data⟩], none⟩) (v := ?v36_11) rfl (by kernel_rfl) (by kernel_rfl) (by kernel_rfl) (fun _ _ _ h => h) (Or.inl ⟨by rfl, ?hy36_11⟩) hHeld ?rest36_11
    case hy36_11 => (intro W hSW; (try dsimp only at hSW); go_simp; try with_reducible rfl)
    try simp only [Act.put, List.setIfInBounds_toArray, List.set_cons_zero, List.set_cons_succ]
    refine wpAnyH_take (i := 37) (oi := ⟨some 58, .move (.tmp 57), 4, "check.go:251", #[⟨36, .data⟩, ⟨29, .chain⟩], none⟩) (v := ?v37_12) rfl (by kernel_rfl) (by kernel_rfl) (by kernel_rfl) (fun _ _ _ h => h) (Or.inl ⟨by rfl, ?hy37_12⟩) hHeld ?rest37_12
    case hy37_12 => (intro W hSW; (try dsimp only at hSW); go_simp; try with_reducible rfl)
    try simp only [Act.put, List.setIfInBounds_toArray, List.set_cons_zero, List.set_cons_succ]
    refine wpAnyH_take (i := 38) (oi := ⟨some 59, .fieldAddr 24 (.tmp 3) 4, 0, "check.go:251", #[⟨37, .guard⟩], some (37, true)⟩) (v := undef) rfl (by kernel_rfl) (by kernel_rfl) (by kernel_rfl) (fun _ _ _ h => h) (Or.inr ⟨by rfl, rfl⟩) hHeld ?_
    try simp only [Act.put, List.setIfInBounds_toArray, List.set_cons_zero, List.set_cons_succ]
    refine wpAnyH_take (i := 39) (oi := ⟨some 60, .load 22 (.tmp 59), 22, "check.go:251", #[⟨38, .data⟩, ⟨37, .guard⟩], some (37, true)⟩) (v := undef) rfl (by kernel_rfl) (by kernel_rfl) (by kernel_rfl) (fun _ _ _ h => h) (Or.inr ⟨by rfl, rfl⟩) hHeld ?_
    try simp only [Act.put, List.setIfInBounds_toArray, List.set_cons_zero, List.set_cons_succ]
    refine wpAnyH_take (i := 40) (oi := ⟨some 61, .load 51 (.tmp 2), 51, "check.go:251", #[⟨37, .guard⟩], some (37, true)⟩) (v := undef) rfl (by kernel_rfl) (by kernel_rfl) (by kernel_rfl) (fun _ _ _ h => h) (Or.inr ⟨by rfl, rfl⟩) hHeld ?_
    try simp only [Act.put, List.setIfInBounds_toArray, List.set_cons_zero, List.set_cons_succ]
    refine wpAnyH_ready (rs := [41]) (by kernel_rfl) (by simp) ?_
    refine AllReadyH.cons (o := ⟨some 62, .call { callee := .value (.func 65), args := #[.tmp 61], argTypes := #[51] }, 51, "check.go:253", #[⟨40, .data⟩, ⟨37, .chain⟩, ⟨37, .guard⟩], some (37, true)⟩) rfl (fun K hK => ?_) AllReadyH.nil
    go_simp
    refine hK.out _ _ hHeld (fun _ => ?_)
    clear hK K
    try simp only [Act.put, List.setIfInBounds_toArray, List.set_cons_zero, List.set_cons_succ]
    refine wpAnyH_ready (rs := [42]) (by kernel_rfl) (by simp) ?_
    refine AllReadyH.cons (o := ⟨some 63, .makeFunc (.func 25) #[.tmp 62] #[], 53, "check.go:251", #[⟨41, .data⟩, ⟨37, .guard⟩], some (37, true)⟩) rfl (fun K hK => ?_) AllReadyH.nil
    go_simp
    refine hK.out _ _ hHeld (fun _ => ?_)
    clear hK K
    try simp only [Act.put, List.setIfInBounds_toArray, List.set_cons_zero, List.set_cons_succ]
    refine wpAnyH_ready (rs := [43]) (by kernel_rfl) (by simp) ?_
    refine AllReadyH.cons (o := ⟨some 64, .call { callee := .value (.func 64), args := #[.tmp 60, .tmp 63], argTypes := #[22, 53] }, 4, "check.go:253", #[⟨39, .data⟩, ⟨42, .data⟩, ⟨41, .chain⟩, ⟨37, .guard⟩], some (37, true)⟩) rfl (fun K hK => ?_) AllReadyH.nil
    go_simp
    refine hK.out _ _ hHeld (fun _ => ?_)
    clear hK K
    try simp only [Act.put, List.setIfInBounds_toArray, List.set_cons_zero, List.set_cons_succ]
    refine wpAnyH_take (i := 44) (oi := ⟨some 65, .pick (.tmp 58) (.tmp 64) (.const (.bool false)), 4, "check.go:251", #[⟨37, .data⟩, ⟨43, .data⟩], none⟩) (v := ?v44_13) rfl (by kernel_rfl) (by kernel_rfl) (by kernel_rfl) (fun _ _ _ h => h) (Or.inl ⟨by rfl, ?hy44_13⟩) hHeld ?rest44_13
    case hy44_13 => (intro W hSW; (try dsimp only at hSW); go_simp; try with_reducible rfl)
    try simp only [Act.put, List.setIfInBounds_toArray, List.set_cons_zero, List.set_cons_succ]
    refine wpAnyH_take (i := 45) (oi := ⟨some 4, .assign (.tmp 65), 4, "check.go:251", #[⟨44, .data⟩, ⟨43, .chain⟩, ⟨0, .phase⟩, ⟨1, .phase⟩, ⟨2, .phase⟩, ⟨3, .phase⟩, ⟨4, .phase⟩, ⟨5, .phase⟩, ⟨6, .phase⟩, ⟨7, .phase⟩, ⟨8, .phase⟩, ⟨9, .phase⟩, ⟨10, .phase⟩, ⟨11, .phase⟩, ⟨12, .phase⟩, ⟨13, .phase⟩, ⟨14, .phase⟩, ⟨15, .phase⟩, ⟨16, .phase⟩, ⟨17, .phase⟩, ⟨18, .phase⟩, ⟨19, .phase⟩, ⟨20, .phase⟩, ⟨21, .phase⟩, ⟨22, .phase⟩, ⟨23, .phase⟩, ⟨24, .phase⟩, ⟨25, .phase⟩, ⟨26, .phase⟩, ⟨27, .phase⟩, ⟨28, .phase⟩, ⟨29, .phase⟩, ⟨30, .phase⟩, ⟨31, .phase⟩, ⟨32, .phase⟩, ⟨33, .phase⟩, ⟨34, .phase⟩, ⟨35, .phase⟩, ⟨36, .phase⟩, ⟨37, .phase⟩, ⟨38, .phase⟩, ⟨39, .phase⟩, ⟨40, .phase⟩, ⟨41, .phase⟩, ⟨42, .phase⟩, ⟨43, .phase⟩, ⟨44, .phase⟩], none⟩) (v := ?v45_14) rfl (by kernel_rfl) (by kernel_rfl) (by kernel_rfl) (fun _ _ _ h => h) (Or.inl ⟨by rfl, ?hy45_14⟩) hHeld ?rest45_14
    case hy45_14 => (intro W hSW; (try dsimp only at hSW); go_simp; try with_reducible rfl)
    try simp only [Act.put, List.setIfInBounds_toArray, List.set_cons_zero, List.set_cons_succ]
    refine wpAnyH_done (by kernel_rfl) ?_ _
    have HS := Lib.hid hHeld
    clear hHeld
    go_wp2_with fail
    go_ret
    exact ⟨by rw [HO.out]; simp [*], HS.out.2.2.2.2.2.2.2.2.2.2.2⟩
  | true =>
    refine wpAnyH_take (i := 0) (oi := ⟨some 21, .move (.tmp 6), 4, "check.go:251", #[], none⟩) (v := ?v0_15) rfl (by kernel_rfl) (by kernel_rfl) (by kernel_rfl) (fun _ _ _ h => h) (Or.inl ⟨by rfl, ?hy0_15⟩) hHeld ?rest0_15
    case hy0_15 => (intro W hSW; (try dsimp only at hSW); go_simp; try with_reducible rfl)
    try simp only [Act.put, List.setIfInBounds_toArray, List.set_cons_zero, List.set_cons_succ]
    refine wpAnyH_take (i := 1) (oi := ⟨some 22, .move (.tmp 21), 4, "check.go:251", #[⟨0, .data⟩], none⟩) (v := ?v1_16) rfl (by kernel_rfl) (by kernel_rfl) (by kernel_rfl) (fun _ _ _ h => h) (Or.inl ⟨by rfl, ?hy1_16⟩) hHeld ?rest1_16
    case hy1_16 => (intro W hSW; (try dsimp only at hSW); go_simp; try with_reducible rfl)
    try simp only [Act.put, List.setIfInBounds_toArray, List.set_cons_zero, List.set_cons_succ]
    refine wpAnyH_take (i := 2) (oi := ⟨some 23, .fieldAddr 24 (.tmp 3) 1, 0, "check.go:251", #[⟨1, .guard⟩], some (1, true)⟩) (v := ?v2_17) rfl (by kernel_rfl) (by kernel_rfl) (by kernel_rfl) (fun _ _ _ h => h) (Or.inl ⟨by rfl, ?hy2_17⟩) hHeld ?rest2_17
    case hy2_17 => (intro W hSW; (try dsimp only at hSW); go_simp; try with_reducible rfl)
    try simp only [Act.put, List.setIfInBounds_toArray, List.set_cons_zero, List.set_cons_succ]
    refine wpAnyH_take (i := 3) (oi := ⟨some 24, .load 2 (.tmp 23), 2, "check.go:251", #[⟨2, .data⟩, ⟨1, .guard⟩], some (1, true)⟩) (v := ?v3_18) rfl (by kernel_rfl) (by kernel_rfl) (by kernel_rfl) (fun _ _ _ h => h) (Or.inl ⟨by rfl, ?hy3_18⟩) hHeld ?rest3_18
    case hy3_18 => (intro W hSW; (try dsimp only at hSW); go_simp; try with_reducible rfl)
    try simp only [Act.put, List.setIfInBounds_toArray, List.set_cons_zero, List.set_cons_succ]
    cases hd0 : decide ((0 : Int) ≤ n) with
    | false =>
      refine wpAnyH_take (i := 4) (oi := ⟨some 25, .binOp .leq 2 (.const (.int .i64 0)) (.tmp 24) 2, 4, "check.go:251", #[⟨3, .data⟩, ⟨1, .guard⟩], some (1, true)⟩) (v := ?v4_19) rfl (by kernel_rfl) (by kernel_rfl) (by kernel_rfl) (fun _ _ _ h => h) (Or.inl ⟨by rfl, ?hy4_19⟩) hHeld ?rest4_19
      case hy4_19 => (intro W hSW; (try dsimp only at hSW); go_simp; try with_reducible rfl)
      try simp only [Act.put, List.setIfInBounds_toArray, List.set_cons_zero, List.set_cons_succ]
      refine wpAnyH_take (i := 5) (oi := ⟨some 26, .pick (.tmp 22) (.tmp 25) (.const (.bool false)), 4, "check.go:251", #[⟨1, .data⟩, ⟨4, .data⟩], none⟩) (v := ?v5_20) rfl (by kernel_rfl) (by kernel_rfl) (by kernel_rfl) (fun _ _ _ h => h) (Or.inl ⟨by rfl, ?hy5_20⟩) hHeld ?rest5_20
      case hy5_20 => (intro W hSW; (try dsimp only at hSW); go_simp; try with_reducible rfl)
      try simp only [Act.put, List.setIfInBounds_toArray, List.set_cons_zero, List.set_cons_succ]
      refine wpAnyH_take (i := 6) (oi := ⟨some 27, .move (.tmp 26), 4, "check.go:251", #[⟨5, .data⟩, ⟨1, .chain⟩], none⟩) (v := ?v6_21) rfl (by kernel_rfl) (by kernel_rfl) (by kernel_rfl) (fun _ _ _ h => h) (Or.inl ⟨by rfl, ?hy6_21⟩) hHeld ?rest6_21
      case hy6_21 => (intro W hSW; (try dsimp only at hSW); go_simp; try with_reducible rfl)
      try simp only [Act.put, List.setIfInBounds_toArray, List.set_cons_zero, List.set_cons_succ]
      refine wpAnyH_take (i := 7) (oi := ⟨some 28, .fieldAddr 24 (.tmp 3) 1, 0, "check.go:251", #[⟨6, .guard⟩], some (6, true)⟩) (v := undef) rfl (by kernel_rfl) (by kernel_rfl) (by kernel_rfl) (fun _ _ _ h => h) (Or.inr ⟨by rfl, rfl⟩) hHeld ?_
      try simp only [Act.put, List.setIfInBounds_toArray, List.set_cons_zero, List.set_cons_succ]
      refine wpAnyH_take (i := 8) (oi := ⟨some 29, .load 2 (.tmp 28), 2, "check.go:251", #[⟨7, .data⟩, ⟨6, .guard⟩], some (6, true)⟩) (v := undef) rfl (by kernel_rfl) (by kernel_rfl) (by kernel_rfl) (fun _ _ _ h => h) (Or.inr ⟨by rfl, rfl⟩) hHeld ?_
      try simp only [Act.put, List.setIfInBounds_toArray, List.set_cons_zero, List.set_cons_succ]
      refine wpAnyH_take (i := 9) (oi := ⟨some 30, .fieldAddr 110 (.tmp 5) 0, 0, "check.go:251", #[⟨6, .guard⟩], some (6, true)⟩) (v := undef) rfl (by kernel_rfl) (by kernel_rfl) (by kernel_rfl) (fun _ _ _ h => h) (Or.inr ⟨by rfl, rfl⟩) hHeld ?_
      try simp only [Act.put, List.setIfInBounds_toArray, List.set_cons_zero, List.set_cons_succ]
      refine wpAnyH_take (i := 10) (oi := ⟨some 31, .load 2 (.tmp 30), 2, "check.go:251", #[⟨9, .data⟩, ⟨6, .guard⟩], some (6, true)⟩) (v := undef) rfl (by kernel_rfl) (by kernel_rfl) (by kernel_rfl) (fun _ _ _ h => h) (Or.inr ⟨by rfl, rfl⟩) hHeld ?_
      try simp only [Act.put, List.setIfInBounds_toArray, List.set_cons_zero, List.set_cons_succ]
      refine wpAnyH_take (i := 11) (oi := ⟨some 32, .binOp .leq 2 (.tmp 29) (.tmp 31) 2, 4, "check.go:251", #[⟨8, .data⟩, ⟨10, .data⟩, ⟨6, .guard⟩], some (6, true)⟩) (v := undef) rfl (by kernel_rfl) (by kernel_rfl) (by kernel_rfl) (fun _ _ _ h => h) (Or.inr ⟨by rfl, rfl⟩) hHeld ?_
      try simp only [Act.put, List.setIfInBounds_toArray, List.set_cons_zero, List.set_cons_succ]
      refine wpAnyH_take (i := 12) (oi := ⟨some 33, .pick (.tmp 27) (.tmp 32) (.const (.bool false)), 4, "check.go:251", #[⟨6, .data⟩, ⟨11, .data⟩], none⟩) (v := ?v12_22) rfl (by kernel_rfl) (by kernel_rfl) (by kernel_rfl) (fun _ _ _ h => h) (Or.inl ⟨by rfl, ?hy12_22⟩) hHeld ?rest12_22
      case hy12_22 => (intro W hSW; (try dsimp only at hSW); go_simp; try with_reducible rfl)
      try simp only [Act.put, List.setIfInBounds_toArray, List.set_cons_zero, List.set_cons_succ]
      refine wpAnyH_take (i := 13) (oi := ⟨some 34, .move (.tmp 33), 4, "check.go:251", #[⟨12, .data⟩, ⟨6, .chain⟩], none⟩) (v := ?v13_23) rfl (by kernel_rfl) (by kernel_rfl) (by kernel_rfl) (fun _ _ _ h => h) (Or.inl ⟨by rfl, ?hy13_23⟩) hHeld ?rest13_23
      case hy13_23 => (intro W hSW; (try dsimp only at hSW); go_simp; try with_reducible rfl)
      try simp only [Act.put, List.setIfInBounds_toArray, List.set_cons_zero, List.set_cons_succ]
      refine wpAnyH_take (i := 14) (oi := ⟨some 35, .load 51 (.tmp 2), 51, "check.go:251", #[⟨13, .guard⟩], some (13, true)⟩) (v := undef) rfl (by kernel_rfl) (by kernel_rfl) (by kernel_rfl) (fun _ _ _ h => h) (Or.inr ⟨by rfl, rfl⟩) hHeld ?_
      try simp only [Act.put, List.setIfInBounds_toArray, List.set_cons_zero, List.set_cons_succ]
      refine wpAnyH_take (i := 15) (oi := ⟨some 36, .fieldAddr 110 (.tmp 5) 1, 0, "check.go:251", #[⟨13, .guard⟩], some (13, true)⟩) (v := undef) rfl (by kernel_rfl) (by kernel_rfl) (by kernel_rfl) (fun _ _ _ h => h) (Or.inr ⟨by rfl, rfl⟩) hHeld ?_
      try simp only [Act.put, List.setIfInBounds_toArray, List.set_cons_zero, List.set_cons_succ]
      refine wpAnyH_take (i := 16) (oi := ⟨some 37, .load 4 (.tmp 36), 4, "check.go:251", #[⟨15, .data⟩, ⟨13, .guard⟩], some (13, true)⟩) (v := undef) rfl (by kernel_rfl) (by kernel_rfl) (by kernel_rfl) (fun _ _ _ h => h) (Or.inr ⟨by rfl, rfl⟩) hHeld ?_
      try simp only [Act.put, List.setIfInBounds_toArray, List.set_cons_zero, List.set_cons_succ]
      refine wpAnyH_take (i := 17) (oi := ⟨some 38, .fieldAddr 24 (.tmp 3) 2, 0, "check.go:251", #[⟨13, .guard⟩], some (13, true)⟩) (v := undef) rfl (by kernel_rfl) (by kernel_rfl) (by kernel_rfl) (fun _ _ _ h => h) (Or.inr ⟨by rfl, rfl⟩) hHeld ?_
      try simp only [Act.put, List.setIfInBounds_toArray, List.set_cons_zero, List.set_cons_succ]
      refine wpAnyH_take (i := 18) (oi := ⟨some 39, .load 9 (.tmp 38), 9, "check.go:251", #[⟨17, .data⟩, ⟨13, .guard⟩], some (13, true)⟩) (v := undef) rfl (by kernel_rfl) (by kernel_rfl) (by kernel_rfl) (fun _ _ _ h => h) (Or.inr ⟨by rfl, rfl⟩) hHeld ?_
      try simp only [Act.put, List.setIfInBounds_toArray, List.set_cons_zero, List.set_cons_succ]
      refine wpAnyH_ready (rs := [19]) (by kernel_rfl) (by simp) ?_
      refine AllReadyH.cons (o := ⟨some 40, .call { callee := .value (.func 63), args := #[.tmp 35, .tmp 37, .tmp 39], argTypes := #[51, 4, 9] }, 4, "check.go:252", #[⟨14, .data⟩, ⟨16, .data⟩, ⟨18, .data⟩, ⟨13, .chain⟩, ⟨13, .guard⟩], some (13, true)⟩) rfl (fun K hK => ?_) AllReadyH.nil
      go_simp
      refine hK.out _ _ hHeld (fun _ => ?_)
      clear hK K
      try simp only [Act.put, List.setIfInBounds_toArray, List.set_cons_zero, List.set_cons_succ]
      refine wpAnyH_take (i := 20) (oi := ⟨some 41, .pick (.tmp 34) (.tmp 40) (.const (.bool false)), 4, "check.go:251", #[⟨13, .data⟩, ⟨19, .data⟩], none⟩) (v := ?v20_24) rfl (by kernel_rfl) (by kernel_rfl) (by kernel_rfl) (fun _ _ _ h => h) (Or.inl ⟨by rfl, ?hy20_24⟩) hHeld ?rest20_24
      case hy20_24 => (intro W hSW; (try dsimp only at hSW); go_simp; try with_reducible rfl)
      try simp only [Act.put, List.setIfInBounds_toArray, List.set_cons_zero, List.set_cons_succ]
      refine wpAnyH_take (i := 21) (oi := ⟨some 42, .move (.tmp 41), 4, "check.go:251", #[⟨20, .data⟩, ⟨19, .chain⟩], none⟩) (v := ?v21_25) rfl (by kernel_rfl) (by kernel_rfl) (by kernel_rfl) (fun _ _ _ h => h) (Or.inl ⟨by rfl, ?hy21_25⟩) hHeld ?rest21_25
      case hy21_25 => (intro W hSW; (try dsimp only at hSW); go_simp; try with_reducible rfl)
      try simp only [Act.put, List.setIfInBounds_toArray, List.set_cons_zero, List.set_cons_succ]
      refine wpAnyH_take (i := 22) (oi := ⟨some 43, .load 51 (.tmp 2), 51, "check.go:251", #[⟨21, .guard⟩], some (21, true)⟩) (v := undef) rfl (by kernel_rfl) (by kernel_rfl) (by kernel_rfl) (fun _ _ _ h => h) (Or.inr ⟨by rfl, rfl⟩) hHeld ?_
      try simp only [Act.put, List.setIfInBounds_toArray, List.set_cons_zero, List.set_cons_succ]
      refine wpAnyH_take (i := 23) (oi := ⟨some 44, .fieldAddr 110 (.tmp 5) 2, 0, "check.go:251", #[⟨21, .guard⟩], some (21, true)⟩) (v := undef) rfl (by kernel_rfl) (by kernel_rfl) (by kernel_rfl) (fun _ _ _ h => h) (Or.inr ⟨by rfl, rfl⟩) hHeld ?_
      try simp only [Act.put, List.setIfInBounds_toArray, List.set_cons_zero, List.set_cons_succ]
      refine wpAnyH_take (i := 24) (oi := ⟨some 45, .load 4 (.tmp 44), 4, "check.go:251", #[⟨23, .data⟩, ⟨21, .guard⟩], some (21, true)⟩) (v := undef) rfl (by kernel_rfl) (by kernel_rfl) (by kernel_rfl) (fun _ _ _ h => h) (Or.inr ⟨by rfl, rfl⟩) hHeld ?_
      try simp only [Act.put, List.setIfInBounds_toArray, List.set_cons_zero, List.set_cons_succ]
      refine wpAnyH_take (i := 25) (oi := ⟨some 46, .fieldAddr 24 (.tmp 3) 3, 0, "check.go:251", #[⟨21, .guard⟩], some (21, true)⟩) (v := undef) rfl (by kernel_rfl) (by kernel_rfl) (by kernel_rfl) (fun _ _ _ h => h) (Or.inr ⟨by rfl, rfl⟩) hHeld ?_
      try simp only [Act.put, List.setIfInBounds_toArray, List.set_cons_zero, List.set_cons_succ]
      refine wpAnyH_take (i := 26) (oi := ⟨some 47, .load 9 (.tmp 46), 9, "check.go:251", #[⟨25, .data⟩, ⟨21, .guard⟩], some (21, true)⟩) (v := undef) rfl (by kernel_rfl) (by kernel_rfl) (by kernel_rfl) (fun _ _ _ h => h) (Or.inr ⟨by rfl, rfl⟩) hHeld ?_
      try simp only [Act.put, List.setIfInBounds_toArray, List.set_cons_zero, List.set_cons_succ]
      refine wpAnyH_ready (rs := [27]) (by kernel_rfl) (by simp) ?_
      refine AllReadyH.cons (o := ⟨some 48, .call { callee := .value (.func 63), args := #[.tmp 43, .tmp 45, .tmp 47], argTypes := #[51, 4, 9] }, 4, "check.go:252", #[⟨22, .data⟩, ⟨24, .data⟩, ⟨26, .data⟩, ⟨21, .chain⟩, ⟨21, .guard⟩], some (21, true)⟩) rfl (fun K hK => ?_) AllReadyH.nil
      go_simp
      refine hK.out _ _ hHeld (fun _ => ?_)
      clear hK K
      try simp only [Act.put, List.setIfInBounds_toArray, List.set_cons_zero, List.set_cons_succ]
      refine wpAnyH_take (i := 28) (oi := ⟨some 49, .pick (.tmp 42) (.tmp 48) (.const (.bool false)), 4, "check.go:251", #[⟨21, .data⟩, ⟨27, .data⟩], none⟩) (v := ?v28_26) rfl (by kernel_rfl) (by kernel_rfl) (by kernel_rfl) (fun _ _ _ h => h) (Or.inl ⟨by rfl, ?hy28_26⟩) hHeld ?rest28_26
      case hy28_26 => (intro W hSW; (try dsimp only at hSW); go_simp; try with_reducible rfl)
      try simp only [Act.put, List.setIfInBounds_toArray, List.set_cons_zero, List.set_cons_succ]
      refine wpAnyH_take (i := 29) (oi := ⟨some 50, .move (.tmp 49), 4, "check.go:251", #[⟨28, .data⟩, ⟨27, .chain⟩], none⟩) (v := ?v29_27) rfl (by kernel_rfl) (by kernel_rfl) (by kernel_rfl) (fun _ _ _ h => h) (Or.inl ⟨by rfl, ?hy29_27⟩) hHeld ?rest29_27
      case hy29_27 => (intro W hSW; (try dsimp only at hSW); go_simp; try with_reducible rfl)
      try simp only [Act.put, List.setIfInBounds_toArray, List.set_cons_zero, List.set_cons_succ]
      refine wpAnyH_take (i := 30) (oi := ⟨some 51, .fieldAddr 24 (.tmp 3) 4, 0, "check.go:251", #[⟨29, .guard⟩], some (29, true)⟩) (v := undef) rfl (by kernel_rfl) (by kernel_rfl) (by kernel_rfl) (fun _ _ _ h => h) (Or.inr ⟨by rfl, rfl⟩) hHeld ?_
      try simp only [Act.put, List.setIfInBounds_toArray, List.set_cons_zero, List.set_cons_succ]
      refine wpAnyH_take (i := 31) (oi := ⟨some 52, .load 22 (.tmp 51), 22, "check.go:251", #[⟨30, .data⟩, ⟨29, .guard⟩], some (29, true)⟩) (v := undef) rfl (by kernel_rfl) (by kernel_rfl) (by kernel_rfl) (fun _ _ _ h => h) (Or.inr ⟨by rfl, rfl⟩) hHeld ?_
      try simp only [Act.put, List.setIfInBounds_toArray, List.set_cons_zero, List.set_cons_succ]
      refine wpAnyH_take (i := 32) (oi := ⟨some 53, .call { callee := .builtin .len, args := #[.tmp 52], argTypes := #[22] }, 3, "check.go:251", #[⟨31, .data⟩, ⟨29, .guard⟩], some (29, true)⟩) (v := undef) rfl (by kernel_rfl) (by kernel_rfl) (by kernel_rfl) (fun _ _ _ h => h) (Or.inr ⟨by rfl, rfl⟩) hHeld ?_
      try simp only [Act.put, List.setIfInBounds_toArray, List.set_cons_zero, List.set_cons_succ]
      refine wpAnyH_take (i := 33) (oi := ⟨some 54, .fieldAddr 110 (.tmp 5) 3, 0, "check.go:251", #[⟨29, .guard⟩], some (29, true)⟩) (v := undef) rfl (by kernel_rfl) (by kernel_rfl) (by kernel_rfl) (fun _ _ _ h => h) (Or.inr ⟨by rfl, rfl⟩) hHeld ?_
      try simp only [Act.put, List.setIfInBounds_toArray, List.set_cons_zero, List.set_cons_succ]
      refine wpAnyH_take (i := 34) (oi := ⟨some 55, .load 3 (.tmp 54), 3, "check.go:251", #[⟨33, .data⟩, ⟨29, .guard⟩], some (29, true)⟩) (v := undef) rfl (by kernel_rfl) (by kernel_rfl) (by kernel_rfl) (fun _ _ _ h => h) (Or.inr ⟨by rfl, rfl⟩) hHeld ?_
      try simp only [Act.put, List.setIfInBounds_toArray, List.set_cons_zero, List.set_cons_succ]
      refine wpAnyH_take (i := 35) (oi := ⟨some 56, .binOp .eql 3 (.tmp 53) (.tmp 55) 3, 4, "check.go:251", #[⟨32, .data⟩, ⟨34, .data⟩, ⟨29, .guard⟩], some (29, true)⟩) (v := undef) rfl (by kernel_rfl) (by kernel_rfl) (by kernel_rfl) (fun _ _ _ h => h) (Or.inr ⟨by rfl, rfl⟩) hHeld ?_
      try simp only [Act.put, List.setIfInBounds_toArray, List.set_cons_zero, List.set_cons_succ]
      refine wpAnyH_take (i := 36) (oi := ⟨some 57, .pick (.tmp 50) (.tmp 56) (.const (.bool false)), 4, "check.go:251", #[⟨29, .data⟩, ⟨35, .data⟩], none⟩) (v := ?v36_28) rfl (by kernel_rfl) (by kernel_rfl) (by kernel_rfl) (fun _ _ _ h => h) (Or.inl ⟨by rfl, ?hy36_28⟩) hHeld ?rest36_28
      case hy36_28 => (intro W hSW; (try dsimp only at hSW); go_simp; try with_reducible rfl)
      try simp only [Act.put, List.setIfInBounds_toArray, List.set_cons_zero, List.set_cons_succ]
      refine wpAnyH_take (i := 37) (oi := ⟨some 58, .move (.tmp 57), 4, "check.go:251", #[⟨36, .data⟩, ⟨29, .chain⟩], none⟩) (v := ?v37_29) rfl (by kernel_rfl) (by kernel_rfl) (by kernel_rfl) (fun _ _ _ h => h) (Or.inl ⟨by rfl, ?hy37_29⟩) hHeld ?rest37_29
      case hy37_29 => (intro W hSW; (try dsimp only at hSW); go_simp; try with_reducible rfl)
      try simp only [Act.put, List.setIfInBounds_toArray, List.set_cons_zero, List.set_cons_succ]
      refine wpAnyH_take (i := 38) (oi := ⟨some 59, .fieldAddr 24 (.tmp 3) 4, 0, "check.go:251", #[⟨37, .guard⟩], some (37, true)⟩) (v := undef) rfl (by kernel_rfl) (by kernel_rfl) (by kernel_rfl) (fun _ _ _ h => h) (Or.inr ⟨by rfl, rfl⟩) hHeld ?_
      try simp only [Act.put, List.setIfInBounds_toArray, List.set_cons_zero, List.set_cons_succ]
      refine wpAnyH_take (i := 39) (oi := ⟨some 60, .load 22 (.tmp 59), 22, "check.go:251", #[⟨38, .data⟩, ⟨37, .guard⟩], some (37, true)⟩) (v := undef) rfl (by kernel_rfl) (by kernel_rfl) (by kernel_rfl) (fun _ _ _ h => h) (Or.inr ⟨by rfl, rfl⟩) hHeld ?_
      try simp only [Act.put, List.setIfInBounds_toArray, List.set_cons_zero, List.set_cons_succ]
      refine wpAnyH_take (i := 40) (oi := ⟨some 61, .load 51 (.tmp 2), 51, "check.go:251", #[⟨37, .guard⟩], some (37, true)⟩) (v := undef) rfl (by kernel_rfl) (by kernel_rfl) (by kernel_rfl) (fun _ _ _ h => h) (Or.inr ⟨by rfl, rfl⟩) hHeld ?_
      try simp only [Act.put, List.setIfInBounds_toArray, List.set_cons_zero, List.set_cons_succ]
      refine wpAnyH_ready (rs := [41]) (by kernel_rfl) (by simp) ?_
      refine AllReadyH.cons (o := ⟨some 62, .call { callee := .value (.func 65), args := #[.tmp 61], argTypes := #[51] }, 51, "check.go:253", #[⟨40, .data⟩, ⟨37, .chain⟩, ⟨37, .guard⟩], some (37, true)⟩) rfl (fun K hK => ?_) AllReadyH.nil
      go_simp
      refine hK.out _ _ hHeld (fun _ => ?_)
      clear hK K
      try simp only [Act.put, List.setIfInBounds_toArray, List.set_cons_zero, List.set_cons_succ]
      refine wpAnyH_ready (rs := [42]) (by kernel_rfl) (by simp) ?_
      refine AllReadyH.cons (o := ⟨some 63, .makeFunc (.func 25) #[.tmp 62] #[], 53, "check.go:251", #[⟨41, .data⟩, ⟨37, .guard⟩], some (37, true)⟩) rfl (fun K hK => ?_) AllReadyH.nil
      go_simp
      refine hK.out _ _ hHeld (fun _ => ?_)
      clear hK K
      try simp only [Act.put, List.setIfInBounds_toArray, List.set_cons_zero, List.set_cons_succ]
      refine wpAnyH_ready (rs := [43]) (by kernel_rfl) (by simp) ?_
      refine AllReadyH.cons (o := ⟨some 64, .call { callee := .value (.func 64), args := #[.tmp 60, .tmp 63], argTypes := #[22, 53] }, 4, "check.go:253", #[⟨39, .data⟩, ⟨42, .data⟩, ⟨41, .chain⟩, ⟨37, .guard⟩], some (37, true)⟩) rfl (fun K hK => ?_) AllReadyH.nil
      go_simp
      refine hK.out _ _ hHeld (fun _ => ?_)
      clear hK K
      try simp only [Act.put, List.setIfInBounds_toArray, List.set_cons_zero, List.set_cons_succ]
      refine wpAnyH_take (i := 44) (oi := ⟨some 65, .pick (.tmp 58) (.tmp 64) (.const (.bool false)), 4, "check.go:251", #[⟨37, .data⟩, ⟨43, .data⟩], none⟩) (v := ?v44_30) rfl (by kernel_rfl) (by kernel_rfl) (by kernel_rfl) (fun _ _ _ h => h) (Or.inl ⟨by rfl, ?hy44_30⟩) hHeld ?rest44_30
      case hy44_30 => (intro W hSW; (try dsimp only at hSW); go_simp; try with_reducible rfl)
      try simp only [Act.put, List.setIfInBounds_toArray, List.set_cons_zero, List.set_cons_succ]
      refine wpAnyH_take (i := 45) (oi := ⟨some 4, .assign (.tmp 65), 4, "check.go:251", #[⟨44, .data⟩, ⟨43, .chain⟩, ⟨0, .phase⟩, ⟨1, .phase⟩, ⟨2, .phase⟩, ⟨3, .phase⟩, ⟨4, .phase⟩, ⟨5, .phase⟩, ⟨6, .phase⟩, ⟨7, .phase⟩, ⟨8, .phase⟩, ⟨9, .phase⟩, ⟨10, .phase⟩, ⟨11, .phase⟩, ⟨12, .phase⟩, ⟨13, .phase⟩, ⟨14, .phase⟩, ⟨15, .phase⟩, ⟨16, .phase⟩, ⟨17, .phase⟩, ⟨18, .phase⟩, ⟨19, .phase⟩, ⟨20, .phase⟩, ⟨21, .phase⟩, ⟨22, .phase⟩, ⟨23, .phase⟩, ⟨24, .phase⟩, ⟨25, .phase⟩, ⟨26, .phase⟩, ⟨27, .phase⟩, ⟨28, .phase⟩, ⟨29, .phase⟩, ⟨30, .phase⟩, ⟨31, .phase⟩, ⟨32, .phase⟩, ⟨33, .phase⟩, ⟨34, .phase⟩, ⟨35, .phase⟩, ⟨36, .phase⟩, ⟨37, .phase⟩, ⟨38, .phase⟩, ⟨39, .phase⟩, ⟨40, .phase⟩, ⟨41, .phase⟩, ⟨42, .phase⟩, ⟨43, .phase⟩, ⟨44, .phase⟩], none⟩) (v := ?v45_31) rfl (by kernel_rfl) (by kernel_rfl) (by kernel_rfl) (fun _ _ _ h => h) (Or.inl ⟨by rfl, ?hy45_31⟩) hHeld ?rest45_31
      case hy45_31 => (intro W hSW; (try dsimp only at hSW); go_simp; try with_reducible rfl)
      try simp only [Act.put, List.setIfInBounds_toArray, List.set_cons_zero, List.set_cons_succ]
      refine wpAnyH_done (by kernel_rfl) ?_ _
      have HS := Lib.hid hHeld
      clear hHeld
      go_wp2_with fail
      go_ret
      exact ⟨by rw [HO.out]; simp [*], HS.out.2.2.2.2.2.2.2.2.2.2.2⟩
    | true =>
      refine wpAnyH_take (i := 4) (oi := ⟨some 25, .binOp .leq 2 (.const (.int .i64 0)) (.tmp 24) 2, 4, "check.go:251", #[⟨3, .data⟩, ⟨1, .guard⟩], some (1, true)⟩) (v := ?v4_32) rfl (by kernel_rfl) (by kernel_rfl) (by kernel_rfl) (fun _ _ _ h => h) (Or.inl ⟨by rfl, ?hy4_32⟩) hHeld ?rest4_32
      case hy4_32 => (intro W hSW; (try dsimp only at hSW); go_simp; try with_reducible rfl)
      try simp only [Act.put, List.setIfInBounds_toArray, List.set_cons_zero, List.set_cons_succ]
      refine wpAnyH_take (i := 5) (oi := ⟨some 26, .pick (.tmp 22) (.tmp 25) (.const (.bool false)), 4, "check.go:251", #[⟨1, .data⟩, ⟨4, .data⟩], none⟩) (v := ?v5_33) rfl (by kernel_rfl) (by kernel_rfl) (by kernel_rfl) (fun _ _ _ h => h) (Or.inl ⟨by rfl, ?hy5_33⟩) hHeld ?rest5_33
      case hy5_33 => (intro W hSW; (try dsimp only at hSW); go_simp; try with_reducible rfl)
      try simp only [Act.put, List.setIfInBounds_toArray, List.set_cons_zero, List.set_cons_succ]
      refine wpAnyH_take (i := 6) (oi := ⟨some 27, .move (.tmp 26), 4, "check.go:251", #[⟨5, .data⟩, ⟨1, .chain⟩], none⟩) (v := ?v6_34) rfl (by kernel_rfl) (by kernel_rfl) (by kernel_rfl) (fun _ _ _ h => h) (Or.inl ⟨by rfl, ?hy6_34⟩) hHeld ?rest6_34
      case hy6_34 => (intro W hSW; (try dsimp only at hSW); go_simp; try with_reducible rfl)
      try simp only [Act.put, List.setIfInBounds_toArray, List.set_cons_zero, List.set_cons_succ]
      refine wpAnyH_take (i := 7) (oi := ⟨some 28, .fieldAddr 24 (.tmp 3) 1, 0, "check.go:251", #[⟨6, .guard⟩], some (6, true)⟩) (v := ?v7_35) rfl (by kernel_rfl) (by kernel_rfl) (by kernel_rfl) (fun _ _ _ h => h) (Or.inl ⟨by rfl, ?hy7_35⟩) hHeld ?rest7_35
      case hy7_35 => (intro W hSW; (try dsimp only at hSW); go_simp; try with_reducible rfl)
      try simp only [Act.put, List.setIfInBounds_toArray, List.set_cons_zero, List.set_cons_succ]
      refine wpAnyH_take (i := 8) (oi := ⟨some 29, .load 2 (.tmp 28), 2, "check.go:251", #[⟨7, .data⟩, ⟨6, .guard⟩], some (6, true)⟩) (v := ?v8_36) rfl (by kernel_rfl) (by kernel_rfl) (by kernel_rfl) (fun _ _ _ h => h) (Or.inl ⟨by rfl, ?hy8_36⟩) hHeld ?rest8_36
      case hy8_36 => (intro W hSW; (try dsimp only at hSW); go_simp; try with_reducible rfl)
      try simp only [Act.put, List.setIfInBounds_toArray, List.set_cons_zero, List.set_cons_succ]
      refine wpAnyH_take (i := 9) (oi := ⟨some 30, .fieldAddr 110 (.tmp 5) 0, 0, "check.go:251", #[⟨6, .guard⟩], some (6, true)⟩) (v := ?v9_37) rfl (by kernel_rfl) (by kernel_rfl) (by kernel_rfl) (fun _ _ _ h => h) (Or.inl ⟨by rfl, ?hy9_37⟩) hHeld ?rest9_37
      case hy9_37 => (intro W hSW; (try dsimp only at hSW); go_simp; try with_reducible rfl)
      try simp only [Act.put, List.setIfInBounds_toArray, List.set_cons_zero, List.set_cons_succ]
      refine wpAnyH_take (i := 10) (oi := ⟨some 31, .load 2 (.tmp 30), 2, "check.go:251", #[⟨9, .data⟩, ⟨6, .guard⟩], some (6, true)⟩) (v := ?v10_38) rfl (by kernel_rfl) (by kernel_rfl) (by kernel_rfl) (fun _ _ _ h => h) (Or.inl ⟨by rfl, ?hy10_38⟩) hHeld ?rest10_38
      case hy10_38 => (intro W hSW; (try dsimp only at hSW); go_simp; try with_reducible rfl)
      try simp only [Act.put, List.setIfInBounds_toArray, List.set_cons_zero, List.set_cons_succ]
      cases hd1 : decide (n ≤ fm) with
      | false =>
        refine wpAnyH_take (i := 11) (oi := ⟨some 32, .binOp .leq 2 (.tmp 29) (.tmp 31) 2, 4, "check.go:251", #[⟨8, .data⟩, ⟨10, .data⟩, ⟨6, .guard⟩], some (6, true)⟩) (v := ?v11_39) rfl (by kernel_rfl) (by kernel_rfl) (by kernel_rfl) (fun _ _ _ h => h) (Or.inl ⟨by rfl, ?hy11_39⟩) hHeld ?rest11_39
        case hy11_39 => (intro W hSW; (try dsimp only at hSW); go_simp; try with_reducible rfl)
        try simp only [Act.put, List.setIfInBounds_toArray, List.set_cons_zero, List.set_cons_succ]
        refine wpAnyH_take (i := 12) (oi := ⟨some 33, .pick (.tmp 27) (.tmp 32) (.const (.bool false)), 4, "check.go:251", #[⟨6, .data⟩, ⟨11, .data⟩], none⟩) (v := ?v12_40) rfl (by kernel_rfl) (by kernel_rfl) (by kernel_rfl) (fun _ _ _ h => h) (Or.inl ⟨by rfl, ?hy12_40⟩) hHeld ?rest12_40
        case hy12_40 => (intro W hSW; (try dsimp only at hSW); go_simp; try with_reducible rfl)
        try simp only [Act.put, List.setIfInBounds_toArray, List.set_cons_zero, List.set_cons_succ]
        refine wpAnyH_take (i := 13) (oi := ⟨some 34, .move (.tmp 33), 4, "check.go:251", #[⟨12, .data⟩, ⟨6, .chain⟩], none⟩) (v := ?v13_41) rfl (by kernel_rfl) (by kernel_rfl) (by kernel_rfl) (fun _ _ _ h => h) (Or.inl ⟨by rfl, ?hy13_41⟩) hHeld ?rest13_41
        case hy13_41 => (intro W hSW; (try dsimp only at hSW); go_simp; try with_reducible rfl)
        try simp only [Act.put, List.setIfInBounds_toArray, List.set_cons_zero, List.set_cons_succ]
        refine wpAnyH_take (i := 14) (oi := ⟨some 35, .load 51 (.tmp 2), 51, "check.go:251", #[⟨13, .guard⟩], some (13, true)⟩) (v := undef) rfl (by kernel_rfl) (by kernel_rfl) (by kernel_rfl) (fun _ _ _ h => h) (Or.inr ⟨by rfl, rfl⟩) hHeld ?_
        try simp only [Act.put, List.setIfInBounds_toArray, List.set_cons_zero, List.set_cons_succ]
        refine wpAnyH_take (i := 15) (oi := ⟨some 36, .fieldAddr 110 (.tmp 5) 1, 0, "check.go:251", #[⟨13, .guard⟩], some (13, true)⟩) (v := undef) rfl (by kernel_rfl) (by kernel_rfl) (by kernel_rfl) (fun _ _ _ h => h) (Or.inr ⟨by rfl, rfl⟩) hHeld ?_
        try simp only [Act.put, List.setIfInBounds_toArray, List.set_cons_zero, List.set_cons_succ]
        refine wpAnyH_take (i := 16) (oi := ⟨some 37, .load 4 (.tmp 36), 4, "check.go:251", #[⟨15, .data⟩, ⟨13, .guard⟩], some (13, true)⟩) (v := undef) rfl (by kernel_rfl) (by kernel_rfl) (by kernel_rfl) (fun _ _ _ h => h) (Or.inr ⟨by rfl, rfl⟩) hHeld ?_
        try simp only [Act.put, List.setIfInBounds_toArray, List.set_cons_zero, List.set_cons_succ]
        refine wpAnyH_take (i := 17) (oi := ⟨some 38, .fieldAddr 24 (.tmp 3) 2, 0, "check.go:251", #[⟨13, .guard⟩], some (13, true)⟩) (v := undef) rfl (by kernel_rfl) (by kernel_rfl) (by kernel_rfl) (fun _ _ _ h => h) (Or.inr ⟨by rfl, rfl⟩) hHeld ?_
        try simp only [Act.put, List.setIfInBounds_toArray, List.set_cons_zero, List.set_cons_succ]
        refine wpAnyH_take (i := 18) (oi := ⟨some 39, .load 9 (.tmp 38), 9, "check.go:251", #[⟨17, .data⟩, ⟨13, .guard⟩], some (13, true)⟩) (v := undef) rfl (by kernel_rfl) (by kernel_rfl) (by kernel_rfl) (fun _ _ _ h => h) (Or.inr ⟨by rfl, rfl⟩) hHeld ?_
        try simp only [Act.put, List.setIfInBounds_toArray, List.set_cons_zero, List.set_cons_succ]
        refine wpAnyH_ready (rs := [19]) (by kernel_rfl) (by simp) ?_
        refine AllReadyH.cons (o := ⟨some 40, .call { callee := .value (.func 63), args := #[.tmp 35, .tmp 37, .tmp 39], argTypes := #[51, 4, 9] }, 4, "check.go:252", #[⟨14, .data⟩, ⟨16, .data⟩, ⟨18, .data⟩, ⟨13, .chain⟩, ⟨13, .guard⟩], some (13, true)⟩) rfl (fun K hK => ?_) AllReadyH.nil
        go_simp
        refine hK.out _ _ hHeld (fun _ => ?_)
        clear hK K
        try simp only [Act.put, List.setIfInBounds_toArray, List.set_cons_zero, List.set_cons_succ]
        refine wpAnyH_take (i := 20) (oi := ⟨some 41, .pick (.tmp 34) (.tmp 40) (.const (.bool false)), 4, "check.go:251", #[⟨13, .data⟩, ⟨19, .data⟩], none⟩) (v := ?v20_42) rfl (by kernel_rfl) (by kernel_rfl) (by kernel_rfl) (fun _ _ _ h => h) (Or.inl ⟨by rfl, ?hy20_42⟩) hHeld ?rest20_42
        case hy20_42 => (intro W hSW; (try dsimp only at hSW); go_simp; try with_reducible rfl)
        try simp only [Act.put, List.setIfInBounds_toArray, List.set_cons_zero, List.set_cons_succ]
        refine wpAnyH_take (i := 21) (oi := ⟨some 42, .move (.tmp 41), 4, "check.go:251", #[⟨20, .data⟩, ⟨19, .chain⟩], none⟩) (v := ?v21_43) rfl (by kernel_rfl) (by kernel_rfl) (by kernel_rfl) (fun _ _ _ h => h) (Or.inl ⟨by rfl, ?hy21_43⟩) hHeld ?rest21_43
        case hy21_43 => (intro W hSW; (try dsimp only at hSW); go_simp; try with_reducible rfl)
        try simp only [Act.put, List.setIfInBounds_toArray, List.set_cons_zero, List.set_cons_succ]
        refine wpAnyH_take (i := 22) (oi := ⟨some 43, .load 51 (.tmp 2), 51, "check.go:251", #[⟨21, .guard⟩], some (21, true)⟩) (v := undef) rfl (by kernel_rfl) (by kernel_rfl) (by kernel_rfl) (fun _ _ _ h => h) (Or.inr ⟨by rfl, rfl⟩) hHeld ?_
        try simp only [Act.put, List.setIfInBounds_toArray, List.set_cons_zero, List.set_cons_succ]
        refine wpAnyH_take (i := 23) (oi := ⟨some 44, .fieldAddr 110 (.tmp 5) 2, 0, "check.go:251", #[⟨21, .guard⟩], some (21, true)⟩) (v := undef) rfl (by kernel_rfl) (by kernel_rfl) (by kernel_rfl) (fun _ _ _ h => h) (Or.inr ⟨by rfl, rfl⟩) hHeld ?_
        try simp only [Act.put, List.setIfInBounds_toArray, List.set_cons_zero, List.set_cons_succ]
        refine wpAnyH_take (i := 24) (oi := ⟨some 45, .load 4 (.tmp 44), 4, "check.go:251", #[⟨23, .data⟩, ⟨21, .guard⟩], some (21, true)⟩) (v := undef) rfl (by kernel_rfl) (by kernel_rfl) (by kernel_rfl) (fun _ _ _ h => h) (Or.inr ⟨by rfl, rfl⟩) hHeld ?_
        try simp only [Act.put, List.setIfInBounds_toArray, List.set_cons_zero, List.set_cons_succ]
        refine wpAnyH_take (i := 25) (oi := ⟨some 46, .fieldAddr 24 (.tmp 3) 3, 0, "check.go:251", #[⟨21, .guard⟩], some (21, true)⟩) (v := undef) rfl (by kernel_rfl) (by kernel_rfl) (by kernel_rfl) (fun _ _ _ h => h) (Or.inr ⟨by rfl, rfl⟩) hHeld ?_
        try simp only [Act.put, List.setIfInBounds_toArray, List.set_cons_zero, List.set_cons_succ]
        refine wpAnyH_take (i := 26) (oi := ⟨some 47, .load 9 (.tmp 46), 9, "check.go:251", #[⟨25, .data⟩, ⟨21, .guard⟩], some (21, true)⟩) (v := undef) rfl (by kernel_rfl) (by kernel_rfl) (by kernel_rfl) (fun _ _ _ h => h) (Or.inr ⟨by rfl, rfl⟩) hHeld ?_
        try simp only [Act.put, List.setIfInBounds_toArray, List.set_cons_zero, List.set_cons_succ]
        refine wpAnyH_ready (rs := [27]) (by kernel_rfl) (by simp) ?_
        refine AllReadyH.cons (o := ⟨some 48, .call { callee := .value (.func 63), args := #[.tmp 43, .tmp 45, .tmp 47], argTypes := #[51, 4, 9] }, 4, "check.go:252", #[⟨22, .data⟩, ⟨24, .data⟩, ⟨26, .data⟩, ⟨21, .chain⟩, ⟨21, .guard⟩], some (21, true)⟩) rfl (fun K hK => ?_) AllReadyH.nil
        go_simp
        refine hK.out _ _ hHeld (fun _ => ?_)
        clear hK K
        try simp only [Act.put, List.setIfInBounds_toArray, List.set_cons_zero, List.set_cons_succ]
        refine wpAnyH_take (i := 28) (oi := ⟨some 49, .pick (.tmp 42) (.tmp 48) (.const (.bool false)), 4, "check.go:251", #[⟨21, .data⟩, ⟨27, .data⟩], none⟩) (v := ?v28_44) rfl (by kernel_rfl) (by kernel_rfl) (by kernel_rfl) (fun _ _ _ h => h) (Or.inl ⟨by rfl, ?hy28_44⟩) hHeld ?rest28_44
        case hy28_44 => (intro W hSW; (try dsimp only at hSW); go_simp; try with_reducible rfl)
        try simp only [Act.put, List.setIfInBounds_toArray, List.set_cons_zero, List.set_cons_succ]
        refine wpAnyH_take (i := 29) (oi := ⟨some 50, .move (.tmp 49), 4, "check.go:251", #[⟨28, .data⟩, ⟨27, .chain⟩], none⟩) (v := ?v29_45) rfl (by kernel_rfl) (by kernel_rfl) (by kernel_rfl) (fun _ _ _ h => h) (Or.inl ⟨by rfl, ?hy29_45⟩) hHeld ?rest29_45
        case hy29_45 => (intro W hSW; (try dsimp only at hSW); go_simp; try with_reducible rfl)
        try simp only [Act.put, List.setIfInBounds_toArray, List.set_cons_zero, List.set_cons_succ]
        refine wpAnyH_take (i := 30) (oi := ⟨some 51, .fieldAddr 24 (.tmp 3) 4, 0, "check.go:251", #[⟨29, .guard⟩], some (29, true)⟩) (v := undef) rfl (by kernel_rfl) (by kernel_rfl) (by kernel_rfl) (fun _ _ _ h => h) (Or.inr ⟨by rfl, rfl⟩) hHeld ?_
        try simp only [Act.put, List.setIfInBounds_toArray, List.set_cons_zero, List.set_cons_succ]
        refine wpAnyH_take (i := 31) (oi := ⟨some 52, .load 22 (.tmp 51), 22, "check.go:251", #[⟨30, .data⟩, ⟨29, .guard⟩], some (29, true)⟩) (v := undef) rfl (by kernel_rfl) (by kernel_rfl) (by kernel_rfl) (fun _ _ _ h => h) (Or.inr ⟨by rfl, rfl⟩) hHeld ?_
        try simp only [Act.put, List.setIfInBounds_toArray, List.set_cons_zero, List.set_cons_succ]
        refine wpAnyH_take (i := 32) (oi := ⟨some 53, .call { callee := .builtin .len, args := #[.tmp 52], argTypes := #[22] }, 3, "check.go:251", #[⟨31, .data⟩, ⟨29, .guard⟩], some (29, true)⟩) (v := undef) rfl (by kernel_rfl) (by kernel_rfl) (by kernel_rfl) (fun _ _ _ h => h) (Or.inr ⟨by rfl, rfl⟩) hHeld ?_
        try simp only [Act.put, List.setIfInBounds_toArray, List.set_cons_zero, List.set_cons_succ]
        refine wpAnyH_take (i := 33) (oi := ⟨some 54, .fieldAddr 110 (.tmp 5) 3, 0, "check.go:251", #[⟨29, .guard⟩], some (29, true)⟩) (v := undef) rfl (by kernel_rfl) (by kernel_rfl) (by kernel_rfl) (fun _ _ _ h => h) (Or.inr ⟨by rfl, rfl⟩) hHeld ?_
        try simp only [Act.put, List.setIfInBounds_toArray, List.set_cons_zero, List.set_cons_succ]
        refine wpAnyH_take (i := 34) (oi := ⟨some 55, .load 3 (.tmp 54), 3, "check.go:251", #[⟨33, .data⟩, ⟨29, .guard⟩], some (29, true)⟩) (v := undef) rfl (by kernel_rfl) (by kernel_rfl) (by kernel_rfl) (fun _ _ _ h => h) (Or.inr ⟨by rfl, rfl⟩) hHeld ?_
        try simp only [Act.put, List.setIfInBounds_toArray, List.set_cons_zero, List.set_cons_succ]
        refine wpAnyH_take (i := 35) (oi := ⟨some 56, .binOp .eql 3 (.tmp 53) (.tmp 55) 3, 4, "check.go:251", #[⟨32, .data⟩, ⟨34, .data⟩, ⟨29, .guard⟩], some (29, true)⟩) (v := undef) rfl (by kernel_rfl) (by kernel_rfl) (by kernel_rfl) (fun _ _ _ h => h) (Or.inr ⟨by rfl, rfl⟩) hHeld ?_
        try simp only [Act.put, List.setIfInBounds_toArray, List.set_cons_zero, List.set_cons_succ]
        refine wpAnyH_take (i := 36) (oi := ⟨some 57, .pick (.tmp 50) (.tmp 56) (.const (.bool false)), 4, "check.go:251", #[⟨29, .data⟩, ⟨35, .data⟩], none⟩) (v := ?v36_46) rfl (by kernel_rfl) (by kernel_rfl) (by kernel_rfl) (fun _ _ _ h => h) (Or.inl ⟨by rfl, ?hy36_46⟩) hHeld ?rest36_46
        case hy36_46 => (intro W hSW; (try dsimp only at hSW); go_simp; try with_reducible rfl)
        try simp only [Act.put, List.setIfInBounds_toArray, List.set_cons_zero, List.set_cons_succ]
        refine wpAnyH_take (i := 37) (oi := ⟨some 58, .move (.tmp 57), 4, "check.go:251", #[⟨36, .data⟩, ⟨29, .chain⟩], none⟩) (v := ?v37_47) rfl (by kernel_rfl) (by kernel_rfl) (by kernel_rfl) (fun _ _ _ h => h) (Or.inl ⟨by rfl, ?hy37_47⟩) hHeld ?rest37_47
        case hy37_47 => (intro W hSW; (try dsimp only at hSW); go_simp; try with_reducible rfl)
        try simp only [Act.put, List.setIfInBounds_toArray, List.set_cons_zero, List.set_cons_succ]
        refine wpAnyH_take (i := 38) (oi := ⟨some 59, .fieldAddr 24 (.tmp 3) 4, 0, "check.go:251", #[⟨37, .guard⟩], some (37, true)⟩) (v := undef) rfl (by kernel_rfl) (by kernel_rfl) (by kernel_rfl) (fun _ _ _ h => h) (Or.inr ⟨by rfl, rfl⟩) hHeld ?_
        try simp only [Act.put, List.setIfInBounds_toArray, List.set_cons_zero, List.set_cons_succ]
        refine wpAnyH_take (i := 39) (oi := ⟨some 60, .load 22 (.tmp 59), 22, "check.go:251", #[⟨38, .data⟩, ⟨37, .guard⟩], some (37, true)⟩) (v := undef) rfl (by kernel_rfl) (by kernel_rfl) (by kernel_rfl) (fun _ _ _ h => h) (Or.inr ⟨by rfl, rfl⟩) hHeld ?_
        try simp only [Act.put, List.setIfInBounds_toArray, List.set_cons_zero, List.set_cons_succ]
        refine wpAnyH_take (i := 40) (oi := ⟨some 61, .load 51 (.tmp 2), 51, "check.go:251", #[⟨37, .guard⟩], some (37, true)⟩) (v := undef) rfl (by kernel_rfl) (by kernel_rfl) (by kernel_rfl) (fun _ _ _ h => h) (Or.inr ⟨by rfl, rfl⟩) hHeld ?_
        try simp only [Act.put, List.setIfInBounds_toArray, List.set_cons_zero, List.set_cons_succ]
        refine wpAnyH_ready (rs := [41]) (by kernel_rfl) (by simp) ?_
        refine AllReadyH.cons (o := ⟨some 62, .call { callee := .value (.func 65), args := #[.tmp 61], argTypes := #[51] }, 51, "check.go:253", #[⟨40, .data⟩, ⟨37, .chain⟩, ⟨37, .guard⟩], some (37, true)⟩) rfl (fun K hK => ?_) AllReadyH.nil
        go_simp
        refine hK.out _ _ hHeld (fun _ => ?_)
        clear hK K
        try simp only [Act.put, List.setIfInBounds_toArray, List.set_cons_zero, List.set_cons_succ]
        refine wpAnyH_ready (rs := [42]) (by kernel_rfl) (by simp) ?_
        refine AllReadyH.cons (o := ⟨some 63, .makeFunc (.func 25) #[.tmp 62] #[], 53, "check.go:251", #[⟨41, .data⟩, ⟨37, .guard⟩], some (37, true)⟩) rfl (fun K hK => ?_) AllReadyH.nil
        go_simp
        refine hK.out _ _ hHeld (fun _ => ?_)
        clear hK K
        try simp only [Act.put, List.setIfInBounds_toArray, List.set_cons_zero, List.set_cons_succ]
        refine wpAnyH_ready (rs := [43]) (by kernel_rfl) (by simp) ?_
        refine AllReadyH.cons (o := ⟨some 64, .call { callee := .value (.func 64), args := #[.tmp 60, .tmp 63], argTypes := #[22, 53] }, 4, "check.go:253", #[⟨39, .data⟩, ⟨42, .data⟩, ⟨41, .chain⟩, ⟨37, .guard⟩], some (37, true)⟩) rfl (fun K hK => ?_) AllReadyH.nil
        go_simp
        refine hK.out _ _ hHeld (fun _ => ?_)
        clear hK K
        try simp only [Act.put, List.setIfInBounds_toArray, List.set_cons_zero, List.set_cons_succ]
        refine wpAnyH_take (i := 44) (oi := ⟨some 65, .pick (.tmp 58) (.tmp 64) (.const (.bool false)), 4, "check.go:251", #[⟨37, .data⟩, ⟨43, .data⟩], none⟩) (v := ?v44_48) rfl (by kernel_rfl) (by kernel_rfl) (by kernel_rfl) (fun _ _ _ h => h) (Or.inl ⟨by rfl, ?hy44_48⟩) hHeld ?rest44_48
        case hy44_48 => (intro W hSW; (try dsimp only at hSW); go_simp; try with_reducible rfl)
        try simp only [Act.put, List.setIfInBounds_toArray, List.set_cons_zero, List.set_cons_succ]
        refine wpAnyH_take (i := 45) (oi := ⟨some 4, .assign (.tmp 65), 4, "check.go:251", #[⟨44, .data⟩, ⟨43, .chain⟩, ⟨0, .phase⟩, ⟨1, .phase⟩, ⟨2, .phase⟩, ⟨3, .phase⟩, ⟨4, .phase⟩, ⟨5, .phase⟩, ⟨6, .phase⟩, ⟨7, .phase⟩, ⟨8, .phase⟩, ⟨9, .phase⟩, ⟨10, .phase⟩, ⟨11, .phase⟩, ⟨12, .phase⟩, ⟨13, .phase⟩, ⟨14, .phase⟩, ⟨15, .phase⟩, ⟨16, .phase⟩, ⟨17, .phase⟩, ⟨18, .phase⟩, ⟨19, .phase⟩, ⟨20, .phase⟩, ⟨21, .phase⟩, ⟨22, .phase⟩, ⟨23, .phase⟩, ⟨24, .phase⟩, ⟨25, .phase⟩, ⟨26, .phase⟩, ⟨27, .phase⟩, ⟨28, .phase⟩, ⟨29, .phase⟩, ⟨30, .phase⟩, ⟨31, .phase⟩, ⟨32, .phase⟩, ⟨33, .phase⟩, ⟨34, .phase⟩, ⟨35, .phase⟩, ⟨36, .phase⟩, ⟨37, .phase⟩, ⟨38, .phase⟩, ⟨39, .phase⟩, ⟨40, .phase⟩, ⟨41, .phase⟩, ⟨42, .phase⟩, ⟨43, .phase⟩, ⟨44, .phase⟩], none⟩) (v := ?v45_49) rfl (by kernel_rfl) (by kernel_rfl) (by kernel_rfl) (fun _ _ _ h => h) (Or.inl ⟨by rfl, ?hy45_49⟩) hHeld ?rest45_49
        case hy45_49 => (intro W hSW; (try dsimp only at hSW); go_simp; try with_reducible rfl)
        try simp only [Act.put, List.setIfInBounds_toArray, List.set_cons_zero, List.set_cons_succ]
        refine wpAnyH_done (by kernel_rfl) ?_ _
        have HS := Lib.hid hHeld
        clear hHeld
        go_wp2_with fail
        go_ret
        exact ⟨by rw [HO.out]; simp [*], HS.out.2.2.2.2.2.2.2.2.2.2.2⟩
      | true =>
        refine wpAnyH_take (i := 11) (oi := ⟨some 32, .binOp .leq 2 (.tmp 29) (.tmp 31) 2, 4, "check.go:251", #[⟨8, .data⟩, ⟨10, .data⟩, ⟨6, .guard⟩], some (6, true)⟩) (v := ?v11_50) rfl (by kernel_rfl) (by kernel_rfl) (by kernel_rfl) (fun _ _ _ h => h) (Or.inl ⟨by rfl, ?hy11_50⟩) hHeld ?rest11_50
        case hy11_50 => (intro W hSW; (try dsimp only at hSW); go_simp; try with_reducible rfl)
        try simp only [Act.put, List.setIfInBounds_toArray, List.set_cons_zero, List.set_cons_succ]
        refine wpAnyH_take (i := 12) (oi := ⟨some 33, .pick (.tmp 27) (.tmp 32) (.const (.bool false)), 4, "check.go:251", #[⟨6, .data⟩, ⟨11, .data⟩], none⟩) (v := ?v12_51) rfl (by kernel_rfl) (by kernel_rfl) (by kernel_rfl) (fun _ _ _ h => h) (Or.inl ⟨by rfl, ?hy12_51⟩) hHeld ?rest12_51
        case hy12_51 => (intro W hSW; (try dsimp only at hSW); go_simp; try with_reducible rfl)
        try simp only [Act.put, List.setIfInBounds_toArray, List.set_cons_zero, List.set_cons_succ]
        refine wpAnyH_take (i := 13) (oi := ⟨some 34, .move (.tmp 33), 4, "check.go:251", #[⟨12, .data⟩, ⟨6, .chain⟩], none⟩) (v := ?v13_52) rfl (by kernel_rfl) (by kernel_rfl) (by kernel_rfl) (fun _ _ _ h => h) (Or.inl ⟨by rfl, ?hy13_52⟩) hHeld ?rest13_52
        case hy13_52 => (intro W hSW; (try dsimp only at hSW); go_simp; try with_reducible rfl)
        try simp only [Act.put, List.setIfInBounds_toArray, List.set_cons_zero, List.set_cons_succ]
        refine wpAnyH_take (i := 14) (oi := ⟨some 35, .load 51 (.tmp 2), 51, "check.go:251", #[⟨13, .guard⟩], some (13, true)⟩) (v := ?v14_53) rfl (by kernel_rfl) (by kernel_rfl) (by kernel_rfl) (fun _ _ _ h => h) (Or.inl ⟨by rfl, ?hy14_53⟩) hHeld ?rest14_53
        case hy14_53 => (intro W hSW; (try dsimp only at hSW); go_simp; try with_reducible rfl)
        try simp only [Act.put, List.setIfInBounds_toArray, List.set_cons_zero, List.set_cons_succ]
        refine wpAnyH_take (i := 15) (oi := ⟨some 36, .fieldAddr 110 (.tmp 5) 1, 0, "check.go:251", #[⟨13, .guard⟩], some (13, true)⟩) (v := ?v15_54) rfl (by kernel_rfl) (by kernel_rfl) (by kernel_rfl) (fun _ _ _ h => h) (Or.inl ⟨by rfl, ?hy15_54⟩) hHeld ?rest15_54
        case hy15_54 => (intro W hSW; (try dsimp only at hSW); go_simp; try with_reducible rfl)
        try simp only [Act.put, List.setIfInBounds_toArray, List.set_cons_zero, List.set_cons_succ]
        refine wpAnyH_take (i := 16) (oi := ⟨some 37, .load 4 (.tmp 36), 4, "check.go:251", #[⟨15, .data⟩, ⟨13, .guard⟩], some (13, true)⟩) (v := ?v16_55) rfl (by kernel_rfl) (by kernel_rfl) (by kernel_rfl) (fun _ _ _ h => h) (Or.inl ⟨by rfl, ?hy16_55⟩) hHeld ?rest16_55
        case hy16_55 => (intro W hSW; (try dsimp only at hSW); go_simp; try with_reducible rfl)
        try simp only [Act.put, List.setIfInBounds_toArray, List.set_cons_zero, List.set_cons_succ]
        refine wpAnyH_take (i := 17) (oi := ⟨some 38, .fieldAddr 24 (.tmp 3) 2, 0, "check.go:251", #[⟨13, .guard⟩], some (13, true)⟩) (v := ?v17_56) rfl (by kernel_rfl) (by kernel_rfl) (by kernel_rfl) (fun _ _ _ h => h) (Or.inl ⟨by rfl, ?hy17_56⟩) hHeld ?rest17_56
        case hy17_56 => (intro W hSW; (try dsimp only at hSW); go_simp; try with_reducible rfl)
        try simp only [Act.put, List.setIfInBounds_toArray, List.set_cons_zero, List.set_cons_succ]
        refine wpAnyH_take (i := 18) (oi := ⟨some 39, .load 9 (.tmp 38), 9, "check.go:251", #[⟨17, .data⟩, ⟨13, .guard⟩], some (13, true)⟩) (v := ?v18_57) rfl (by kernel_rfl) (by kernel_rfl) (by kernel_rfl) (fun _ _ _ h => h) (Or.inl ⟨by rfl, ?hy18_57⟩) hHeld ?rest18_57
        case hy18_57 => (intro W hSW; (try dsimp only at hSW); go_simp; try with_reducible rfl)
        try simp only [Act.put, List.setIfInBounds_toArray, List.set_cons_zero, List.set_cons_succ]
        cases n1 with
        | false =>
          refine wpAnyH_ready (rs := [19]) (by kernel_rfl) (by simp) ?_
          refine AllReadyH.cons (o := ⟨some 40, .call { callee := .value (.func 63), args := #[.tmp 35, .tmp 37, .tmp 39], argTypes := #[51, 4, 9] }, 4, "check.go:252", #[⟨14, .data⟩, ⟨16, .data⟩, ⟨18, .data⟩, ⟨13, .chain⟩, ⟨13, .guard⟩], some (13, true)⟩) rfl (fun K hK => ?_) AllReadyH.nil
          go_simp
          go_at_call 63
          refine (N1.out _ hHeld).mono ?_
          rintro e w7 ⟨rfl, s7⟩
          clear hHeld
          have hHeld := s7
          clear s7
          refine hK.out _ _ hHeld (fun _ => ?_)
          clear hK K
          try simp only [Act.put, List.setIfInBounds_toArray, List.set_cons_zero, List.set_cons_succ]
          refine wpAnyH_take (i := 20) (oi := ⟨some 41, .pick (.tmp 34) (.tmp 40) (.const (.bool false)), 4, "check.go:251", #[⟨13, .data⟩, ⟨19, .data⟩], none⟩) (v := ?v20_58) rfl (by kernel_rfl) (by kernel_rfl) (by kernel_rfl) (fun _ _ _ h => h) (Or.inl ⟨by rfl, ?hy20_58⟩) hHeld ?rest20_58
          case hy20_58 => (intro W hSW; (try dsimp only at hSW); go_simp; try with_reducible rfl)
          try simp only [Act.put, List.setIfInBounds_toArray, List.set_cons_zero, List.set_cons_succ]
          refine wpAnyH_take (i := 21) (oi := ⟨some 42, .move (.tmp 41), 4, "check.go:251", #[⟨20, .data⟩, ⟨19, .chain⟩], none⟩) (v := ?v21_59) rfl (by kernel_rfl) (by kernel_rfl) (by kernel_rfl) (fun _ _ _ h => h) (Or.inl ⟨by rfl, ?hy21_59⟩) hHeld ?rest21_59
          case hy21_59 => (intro W hSW; (try dsimp only at hSW); go_simp; try with_reducible rfl)
          try simp only [Act.put, List.setIfInBounds_toArray, List.set_cons_zero, List.set_cons_succ]
          refine wpAnyH_take (i := 22) (oi := ⟨some 43, .load 51 (.tmp 2), 51, "check.go:251", #[⟨21, .guard⟩], some (21, true)⟩) (v := undef) rfl (by kernel_rfl) (by kernel_rfl) (by kernel_rfl) (fun _ _ _ h => h) (Or.inr ⟨by rfl, rfl⟩) hHeld ?_
          try simp only [Act.put, List.setIfInBounds_toArray, List.set_cons_zero, List.set_cons_succ]
          refine wpAnyH_take (i := 23) (oi := ⟨some 44, .fieldAddr 110 (.tmp 5) 2, 0, "check.go:251", #[⟨21, .guard⟩], some (21, true)⟩) (v := undef) rfl (by kernel_rfl) (by kernel_rfl) (by kernel_rfl) (fun _ _ _ h => h) (Or.inr ⟨by rfl, rfl⟩) hHeld ?_
          try simp only [Act.put, List.setIfInBounds_toArray, List.set_cons_zero, List.set_cons_succ]
          refine wpAnyH_take (i := 24) (oi := ⟨some 45, .load 4 (.tmp 44), 4, "check.go:251", #[⟨23, .data⟩, ⟨21, .guard⟩], some (21, true)⟩) (v := undef) rfl (by kernel_rfl) (by kernel_rfl) (by kernel_rfl) (fun _ _ _ h => h) (Or.inr ⟨by rfl, rfl⟩) hHeld ?_
          try simp only [Act.put, List.setIfInBounds_toArray, List.set_cons_zero, List.set_cons_succ]
          refine wpAnyH_take (i := 25) (oi := ⟨some 46, .fieldAddr 24 (.tmp 3) 3, 0, "check.go:251", #[⟨21, .guard⟩], some (21, true)⟩) (v := undef) rfl (by kernel_rfl) (by kernel_rfl) (by kernel_rfl) (fun _ _ _ h => h) (Or.inr ⟨by rfl, rfl⟩) hHeld ?_
          try simp only [Act.put, List.setIfInBounds_toArray, List.set_cons_zero, List.set_cons_succ]
          refine wpAnyH_take (i := 26) (oi := ⟨some 47, .load 9 (.tmp 46), 9, "check.go:251", #[⟨25, .data⟩, ⟨21, .guard⟩], some (21, true)⟩) (v := undef) rfl (by kernel_rfl) (by kernel_rfl) (by kernel_rfl) (fun _ _ _ h => h) (Or.inr ⟨by rfl, rfl⟩) hHeld ?_
          try simp only [Act.put, List.setIfInBounds_toArray, List.set_cons_zero, List.set_cons_succ]
          refine wpAnyH_ready (rs := [27]) (by kernel_rfl) (by simp) ?_
          refine AllReadyH.cons (o := ⟨some 48, .call { callee := .value (.func 63), args := #[.tmp 43, .tmp 45, .tmp 47], argTypes := #[51, 4, 9] }, 4, "check.go:252", #[⟨22, .data⟩, ⟨24, .data⟩, ⟨26, .data⟩, ⟨21, .chain⟩, ⟨21, .guard⟩], some (21, true)⟩) rfl (fun K hK => ?_) AllReadyH.nil
          go_simp
          refine hK.out _ _ hHeld (fun _ => ?_)
          clear hK K
          try simp only [Act.put, List.setIfInBounds_toArray, List.set_cons_zero, List.set_cons_succ]
          refine wpAnyH_take (i := 28) (oi := ⟨some 49, .pick (.tmp 42) (.tmp 48) (.const (.bool false)), 4, "check.go:251", #[⟨21, .data⟩, ⟨27, .data⟩], none⟩) (v := ?v28_60) rfl (by kernel_rfl) (by kernel_rfl) (by kernel_rfl) (fun _ _ _ h => h) (Or.inl ⟨by rfl, ?hy28_60⟩) hHeld ?rest28_60
          case hy28_60 => (intro W hSW; (try dsimp only at hSW); go_simp; try with_reducible rfl)
          try simp only [Act.put, List.setIfInBounds_toArray, List.set_cons_zero, List.set_cons_succ]
          refine wpAnyH_take (i := 29) (oi := ⟨some 50, .move (.tmp 49), 4, "check.go:251", #[⟨28, .data⟩, ⟨27, .chain⟩], none⟩) (v := ?v29_61) rfl (by kernel_rfl) (by kernel_rfl) (by kernel_rfl) (fun _ _ _ h => h) (Or.inl ⟨by rfl, ?hy29_61⟩) hHeld ?rest29_61
          case hy29_61 => (intro W hSW; (try dsimp only at hSW); go_simp; try with_reducible rfl)
          try simp only [Act.put, List.setIfInBounds_toArray, List.set_cons_zero, List.set_cons_succ]
          refine wpAnyH_take (i := 30) (oi := ⟨some 51, .fieldAddr 24 (.tmp 3) 4, 0, "check.go:251", #[⟨29, .guard⟩], some (29, true)⟩) (v := undef) rfl (by kernel_rfl) (by kernel_rfl) (by kernel_rfl) (fun _ _ _ h => h) (Or.inr ⟨by rfl, rfl⟩) hHeld ?_
          try simp only [Act.put, List.setIfInBounds_toArray, List.set_cons_zero, List.set_cons_succ]
          refine wpAnyH_take (i := 31) (oi := ⟨some 52, .load 22 (.tmp 51), 22, "check.go:251", #[⟨30, .data⟩, ⟨29, .guard⟩], some (29, true)⟩) (v := undef) rfl (by kernel_rfl) (by kernel_rfl) (by kernel_rfl) (fun _ _ _ h => h) (Or.inr ⟨by rfl, rfl⟩) hHeld ?_
          try simp only [Act.put, List.setIfInBounds_toArray, List.set_cons_zero, List.set_cons_succ]
          refine wpAnyH_take (i := 32) (oi := ⟨some 53, .call { callee := .builtin .len, args := #[.tmp 52], argTypes := #[22] }, 3, "check.go:251", #[⟨31, .data⟩, ⟨29, .guard⟩], some (29, true)⟩) (v := undef) rfl (by kernel_rfl) (by kernel_rfl) (by kernel_rfl) (fun _ _ _ h => h) (Or.inr ⟨by rfl, rfl⟩) hHeld ?_
          try simp only [Act.put, List.setIfInBounds_toArray, List.set_cons_zero, List.set_cons_succ]
          refine wpAnyH_take (i := 33) (oi := ⟨some 54, .fieldAddr 110 (.tmp 5) 3, 0, "check.go:251", #[⟨29, .guard⟩], some (29, true)⟩) (v := undef) rfl (by kernel_rfl) (by kernel_rfl) (by kernel_rfl) (fun _ _ _ h => h) (Or.inr ⟨by rfl, rfl⟩) hHeld ?_
          try simp only [Act.put, List.setIfInBounds_toArray, List.set_cons_zero, List.set_cons_succ]
          refine wpAnyH_take (i := 34) (oi := ⟨some 55, .load 3 (.tmp 54), 3, "check.go:251", #[⟨33, .data⟩, ⟨29, .guard⟩], some (29, true)⟩) (v := undef) rfl (by kernel_rfl) (by kernel_rfl) (by kernel_rfl) (fun _ _ _ h => h) (Or.inr ⟨by rfl, rfl⟩) hHeld ?_
          try simp only [Act.put, List.setIfInBounds_toArray, List.set_cons_zero, List.set_cons_succ]
          refine wpAnyH_take (i := 35) (oi := ⟨some 56, .binOp .eql 3 (.tmp 53) (.tmp 55) 3, 4, "check.go:251", #[⟨32, .data⟩, ⟨34, .data⟩, ⟨29, .guard⟩], some (29, true)⟩) (v := undef) rfl (by kernel_rfl) (by kernel_rfl) (by kernel_rfl) (fun _ _ _ h => h) (Or.inr ⟨by rfl, rfl⟩) hHeld ?_
          try simp only [Act.put, List.setIfInBounds_toArray, List.set_cons_zero, List.set_cons_succ]
          refine wpAnyH_take (i := 36) (oi := ⟨some 57, .pick (.tmp 50) (.tmp 56) (.const (.bool false)), 4, "check.go:251", #[⟨29, .data⟩, ⟨35, .data⟩], none⟩) (v := ?v36_62) rfl (by kernel_rfl) (by kernel_rfl) (by kernel_rfl) (fun _ _ _ h => h) (Or.inl ⟨by rfl, ?hy36_62⟩) hHeld ?rest36_62
          case hy36_62 => (intro W hSW; (try dsimp only at hSW); go_simp; try with_reducible rfl)
          try simp only [Act.put, List.setIfInBounds_toArray, List.set_cons_zero, List.set_cons_succ]
          refine wpAnyH_take (i := 37) (oi := ⟨some 58, .move (.tmp 57), 4, "check.go:251", #[⟨36, .data⟩, ⟨29, .chain⟩], none⟩) (v := ?v37_63) rfl (by kernel_rfl) (by kernel_rfl) (by kernel_rfl) (fun _ _ _ h => h) (Or.inl ⟨by rfl, ?hy37_63⟩) hHeld ?rest37_63
          case hy37_63 => (intro W hSW; (try dsimp only at hSW); go_simp; try with_reducible rfl)
          try simp only [Act.put, List.setIfInBounds_toArray, List.set_cons_zero, List.set_cons_succ]
          refine wpAnyH_take (i := 38) (oi := ⟨some 59, .fieldAddr 24 (.tmp 3) 4, 0, "check.go:251", #[⟨37, .guard⟩], some (37, true)⟩) (v := undef) rfl (by kernel_rfl) (by kernel_rfl) (by kernel_rfl) (fun _ _ _ h => h) (Or.inr ⟨by rfl, rfl⟩) hHeld ?_
          try simp only [Act.put, List.setIfInBounds_toArray, List.set_cons_zero, List.set_cons_succ]
          refine wpAnyH_take (i := 39) (oi := ⟨some 60, .load 22 (.tmp 59), 22, "check.go:251", #[⟨38, .data⟩, ⟨37, .guard⟩], some (37, true)⟩) (v := undef) rfl (by kernel_rfl) (by kernel_rfl) (by kernel_rfl) (fun _ _ _ h => h) (Or.inr ⟨by rfl, rfl⟩) hHeld ?_
          try simp only [Act.put, List.setIfInBounds_toArray, List.set_cons_zero, List.set_cons_succ]
          refine wpAnyH_take (i := 40) (oi := ⟨some 61, .load 51 (.tmp 2), 51, "check.go:251", #[⟨37, .guard⟩], some (37, true)⟩) (v := undef) rfl (by kernel_rfl) (by kernel_rfl) (by kernel_rfl) (fun _ _ _ h => h) (Or.inr ⟨by rfl, rfl⟩) hHeld ?_
          try simp only [Act.put, List.setIfInBounds_toArray, List.set_cons_zero, List.set_cons_succ]
          refine wpAnyH_ready (rs := [41]) (by kernel_rfl) (by simp) ?_
          refine AllReadyH.cons (o := ⟨some 62, .call { callee := .value (.func 65), args := #[.tmp 61], argTypes := #[51] }, 51, "check.go:253", #[⟨40, .data⟩, ⟨37, .chain⟩, ⟨37, .guard⟩], some (37, true)⟩) rfl (fun K hK => ?_) AllReadyH.nil
          go_simp
          refine hK.out _ _ hHeld (fun _ => ?_)
          clear hK K
          try simp only [Act.put, List.setIfInBounds_toArray, List.set_cons_zero, List.set_cons_succ]
          refine wpAnyH_ready (rs := [42]) (by kernel_rfl) (by simp) ?_
          refine AllReadyH.cons (o := ⟨some 63, .makeFunc (.func 25) #[.tmp 62] #[], 53, "check.go:251", #[⟨41, .data⟩, ⟨37, .guard⟩], some (37, true)⟩) rfl (fun K hK => ?_) AllReadyH.nil
          go_simp
          refine hK.out _ _ hHeld (fun _ => ?_)
          clear hK K
          try simp only [Act.put, List.setIfInBounds_toArray, List.set_cons_zero, List.set_cons_succ]
          refine wpAnyH_ready (rs := [43]) (by kernel_rfl) (by simp) ?_
          refine AllReadyH.cons (o := ⟨some 64, .call { callee := .value (.func 64), args := #[.tmp 60, .tmp 63], argTypes := #[22, 53] }, 4, "check.go:253", #[⟨39, .data⟩, ⟨42, .data⟩, ⟨41, .chain⟩, ⟨37, .guard⟩], some (37, true)⟩) rfl (fun K hK => ?_) AllReadyH.nil
          go_simp
          refine hK.out _ _ hHeld (fun _ => ?_)
          clear hK K
          try simp only [Act.put, List.setIfInBounds_toArray, List.set_cons_zero, List.set_cons_succ]
          refine wpAnyH_take (i := 44) (oi := ⟨some 65, .pick (.tmp 58) (.tmp 64) (.const (.bool false)), 4, "check.go:251", #[⟨37, .data⟩, ⟨43, .data⟩], none⟩) (v := ?v44_64) rfl (by kernel_rfl) (by kernel_rfl) (by kernel_rfl) (fun _ _ _ h => h) (Or.inl ⟨by rfl, ?hy44_64⟩) hHeld ?rest44_64
          case hy44_64 => (intro W hSW; (try dsimp only at hSW); go_simp; try with_reducible rfl)
          try simp only [Act.put, List.setIfInBounds_toArray, List.set_cons_zero, List.set_cons_succ]
          refine wpAnyH_take (i := 45) (oi := ⟨some 4, .assign (.tmp 65), 4, "check.go:251", #[⟨44, .data⟩, ⟨43, .chain⟩, ⟨0, .phase⟩, ⟨1, .phase⟩, ⟨2, .phase⟩, ⟨3, .phase⟩, ⟨4, .phase⟩, ⟨5, .phase⟩, ⟨6, .phase⟩, ⟨7, .phase⟩, ⟨8, .phase⟩, ⟨9, .phase⟩, ⟨10, .phase⟩, ⟨11, .phase⟩, ⟨12, .phase⟩, ⟨13, .phase⟩, ⟨14, .phase⟩, ⟨15, .phase⟩, ⟨16, .phase⟩, ⟨17, .phase⟩, ⟨18, .phase⟩, ⟨19, .phase⟩, ⟨20, .phase⟩, ⟨21, .phase⟩, ⟨22, .phase⟩, ⟨23, .phase⟩, ⟨24, .phase⟩, ⟨25, .phase⟩, ⟨26, .phase⟩, ⟨27, .phase⟩, ⟨28, .phase⟩, ⟨29, .phase⟩, ⟨30, .phase⟩, ⟨31, .phase⟩, ⟨32, .phase⟩, ⟨33, .phase⟩, ⟨34, .phase⟩, ⟨35, .phase⟩, ⟨36, .phase⟩, ⟨37, .phase⟩, ⟨38, .phase⟩, ⟨39, .phase⟩, ⟨40, .phase⟩, ⟨41, .phase⟩, ⟨42, .phase⟩, ⟨43, .phase⟩, ⟨44, .phase⟩], none⟩) (v := ?v45_65) rfl (by kernel_rfl) (by kernel_rfl) (by kernel_rfl) (fun _ _ _ h => h) (Or.inl ⟨by rfl, ?hy45_65⟩) hHeld ?rest45_65
          case hy45_65 => (intro W hSW; (try dsimp only at hSW); go_simp; try with_reducible rfl)
          try simp only [Act.put, List.setIfInBounds_toArray, List.set_cons_zero, List.set_cons_succ]
          refine wpAnyH_done (by kernel_rfl) ?_ _
          have HS := Lib.hid hHeld
          clear hHeld
          go_wp2_with fail
          go_ret
          exact ⟨by rw [HO.out]; simp [*], HS.out.2.2.2.2.2.2.2.2.2.2.2⟩
        | true =>
          refine wpAnyH_ready (rs := [19]) (by kernel_rfl) (by simp) ?_
          refine AllReadyH.cons (o := ⟨some 40, .call { callee := .value (.func 63), args := #[.tmp 35, .tmp 37, .tmp 39], argTypes := #[51, 4, 9] }, 4, "check.go:252", #[⟨14, .data⟩, ⟨16, .data⟩, ⟨18, .data⟩, ⟨13, .chain⟩, ⟨13, .guard⟩], some (13, true)⟩) rfl (fun K hK => ?_) AllReadyH.nil
          go_simp
          go_at_call 63
          refine (N1.out _ hHeld).mono ?_
          rintro e w7 ⟨rfl, s7⟩
          clear hHeld
          have hHeld := s7
          clear s7
          refine hK.out _ _ hHeld (fun _ => ?_)
          clear hK K
          try simp only [Act.put, List.setIfInBounds_toArray, List.set_cons_zero, List.set_cons_succ]
          refine wpAnyH_take (i := 20) (oi := ⟨some 41, .pick (.tmp 34) (.tmp 40) (.const (.bool false)), 4, "check.go:251", #[⟨13, .data⟩, ⟨19, .data⟩], none⟩) (v := ?v20_66) rfl (by kernel_rfl) (by kernel_rfl) (by kernel_rfl) (fun _ _ _ h => h) (Or.inl ⟨by rfl, ?hy20_66⟩) hHeld ?rest20_66
          case hy20_66 => (intro W hSW; (try dsimp only at hSW); go_simp; try with_reducible rfl)
          try simp only [Act.put, List.setIfInBounds_toArray, List.set_cons_zero, List.set_cons_succ]
          refine wpAnyH_take (i := 21) (oi := ⟨some 42, .move (.tmp 41), 4, "check.go:251", #[⟨20, .data⟩, ⟨19, .chain⟩], none⟩) (v := ?v21_67) rfl (by kernel_rfl) (by kernel_rfl) (by kernel_rfl) (fun _ _ _ h => h) (Or.inl ⟨by rfl, ?hy21_67⟩) hHeld ?rest21_67
          case hy21_67 => (intro W hSW; (try dsimp only at hSW); go_simp; try with_reducible rfl)
          try simp only [Act.put, List.setIfInBounds_toArray, List.set_cons_zero, List.set_cons_succ]
          refine wpAnyH_take (i := 22) (oi := ⟨some 43, .load 51 (.tmp 2), 51, "check.go:251", #[⟨21, .guard⟩], some (21, true)⟩) (v := ?v22_68) rfl (by kernel_rfl) (by kernel_rfl) (by kernel_rfl) (fun _ _ _ h => h) (Or.inl ⟨by rfl, ?hy22_68⟩) hHeld ?rest22_68
          case hy22_68 => (intro W hSW; (try dsimp only at hSW); go_simp; try with_reducible rfl)
          try simp only [Act.put, List.setIfInBounds_toArray, List.set_cons_zero, List.set_cons_succ]
          refine wpAnyH_take (i := 23) (oi := ⟨some 44, .fieldAddr 110 (.tmp 5) 2, 0, "check.go:251", #[⟨21, .guard⟩], some (21, true)⟩) (v := ?v23_69) rfl (by kernel_rfl) (by kernel_rfl) (by kernel_rfl) (fun _ _ _ h => h) (Or.inl ⟨by rfl, ?hy23_69⟩) hHeld ?rest23_69
          case hy23_69 => (intro W hSW; (try dsimp only at hSW); go_simp; try with_reducible rfl)
          try simp only [Act.put, List.setIfInBounds_toArray, List.set_cons_zero, List.set_cons_succ]
          refine wpAnyH_take (i := 24) (oi := ⟨some 45, .load 4 (.tmp 44), 4, "check.go:251", #[⟨23, .data⟩, ⟨21, .guard⟩], some (21, true)⟩) (v := ?v24_70) rfl (by kernel_rfl) (by kernel_rfl) (by kernel_rfl) (fun _ _ _ h => h) (Or.inl ⟨by rfl, ?hy24_70⟩) hHeld ?rest24_70
          case hy24_70 => (intro W hSW; (try dsimp only at hSW); go_simp; try with_reducible rfl)
          try simp only [Act.put, List.setIfInBounds_toArray, List.set_cons_zero, List.set_cons_succ]
          refine wpAnyH_take (i := 25) (oi := ⟨some 46, .fieldAddr 24 (.tmp 3) 3, 0, "check.go:251", #[⟨21, .guard⟩], some (21, true)⟩) (v := ?v25_71) rfl (by kernel_rfl) (by kernel_rfl) (by kernel_rfl) (fun _ _ _ h => h) (Or.inl ⟨by rfl, ?hy25_71⟩) hHeld ?rest25_71
          case hy25_71 => (intro W hSW; (try dsimp only at hSW); go_simp; try with_reducible rfl)
          try simp only [Act.put, List.setIfInBounds_toArray, List.set_cons_zero, List.set_cons_succ]
          refine wpAnyH_take (i := 26) (oi := ⟨some 47, .load 9 (.tmp 46), 9, "check.go:251", #[⟨25, .data⟩, ⟨21, .guard⟩], some (21, true)⟩) (v := ?v26_72) rfl (by kernel_rfl) (by kernel_rfl) (by kernel_rfl) (fun _ _ _ h => h) (Or.inl ⟨by rfl, ?hy26_72⟩) hHeld ?rest26_72
          case hy26_72 => (intro W hSW; (try dsimp only at hSW); go_simp; try with_reducible rfl)
          try simp only [Act.put, List.setIfInBounds_toArray, List.set_cons_zero, List.set_cons_succ]
          cases n2 with
          | false =>
            refine wpAnyH_ready (rs := [27]) (by kernel_rfl) (by simp) ?_
            refine AllReadyH.cons (o := ⟨some 48, .call { callee := .value (.func 63), args := #[.tmp 43, .tmp 45, .tmp 47], argTypes := #[51, 4, 9] }, 4, "check.go:252", #[⟨22, .data⟩, ⟨24, .data⟩, ⟨26, .data⟩, ⟨21, .chain⟩, ⟨21, .guard⟩], some (21, true)⟩) rfl (fun K hK => ?_) AllReadyH.nil
            go_simp
            go_at_call 63
            refine (N2.out _ hHeld).mono ?_
            rintro e w7 ⟨rfl, s7⟩
            clear hHeld
            have hHeld := s7
            clear s7
            refine hK.out _ _ hHeld (fun _ => ?_)
            clear hK K
            try simp only [Act.put, List.setIfInBounds_toArray, List.set_cons_zero, List.set_cons_succ]
            refine wpAnyH_take (i := 28) (oi := ⟨some 49, .pick (.tmp 42) (.tmp 48) (.const (.bool false)), 4, "check.go:251", #[⟨21, .data⟩, ⟨27, .data⟩], none⟩) (v := ?v28_73) rfl (by kernel_rfl) (by kernel_rfl) (by kernel_rfl) (fun _ _ _ h => h) (Or.inl ⟨by rfl, ?hy28_73⟩) hHeld ?rest28_73
            case hy28_73 => (intro W hSW; (try dsimp only at hSW); go_simp; try with_reducible rfl)
            try simp only [Act.put, List.setIfInBounds_toArray, List.set_cons_zero, List.set_cons_succ]
            refine wpAnyH_take (i := 29) (oi := ⟨some 50, .move (.tmp 49), 4, "check.go:251", #[⟨28, .data⟩, ⟨27, .chain⟩], none⟩) (v := ?v29_74) rfl (by kernel_rfl) (by kernel_rfl) (by kernel_rfl) (fun _ _ _ h => h) (Or.inl ⟨by rfl, ?hy29_74⟩) hHeld ?rest29_74
            case hy29_74 => (intro W hSW; (try dsimp only at hSW); go_simp; try with_reducible rfl)
            try simp only [Act.put, List.setIfInBounds_toArray, List.set_cons_zero, List.set_cons_succ]
            refine wpAnyH_take (i := 30) (oi := ⟨some 51, .fieldAddr 24 (.tmp 3) 4, 0, "check.go:251", #[⟨29, .guard⟩], some (29, true)⟩) (v := undef) rfl (by kernel_rfl) (by kernel_rfl) (by kernel_rfl) (fun _ _ _ h => h) (Or.inr ⟨by rfl, rfl⟩) hHeld ?_
            try simp only [Act.put, List.setIfInBounds_toArray, List.set_cons_zero, List.set_cons_succ]
            refine wpAnyH_take (i := 31) (oi := ⟨some 52, .load 22 (.tmp 51), 22, "check.go:251", #[⟨30, .data⟩, ⟨29, .guard⟩], some (29, true)⟩) (v := undef) rfl (by kernel_rfl) (by kernel_rfl) (by kernel_rfl) (fun _ _ _ h => h) (Or.inr ⟨by rfl, rfl⟩) hHeld ?_
            try simp only [Act.put, List.setIfInBounds_toArray, List.set_cons_zero, List.set_cons_succ]
            refine wpAnyH_take (i := 32) (oi := ⟨some 53, .call { callee := .builtin .len, args := #[.tmp 52], argTypes := #[22] }, 3, "check.go:251", #[⟨31, .data⟩, ⟨29, .guard⟩], some (29, true)⟩) (v := undef) rfl (by kernel_rfl) (by kernel_rfl) (by kernel_rfl) (fun _ _ _ h => h) (Or.inr ⟨by rfl, rfl⟩) hHeld ?_
            try simp only [Act.put, List.setIfInBounds_toArray, List.set_cons_zero, List.set_cons_succ]
            refine wpAnyH_take (i := 33) (oi := ⟨some 54, .fieldAddr 110 (.tmp 5) 3, 0, "check.go:251", #[⟨29, .guard⟩], some (29, true)⟩) (v := undef) rfl (by kernel_rfl) (by kernel_rfl) (by kernel_rfl) (fun _ _ _ h => h) (Or.inr ⟨by rfl, rfl⟩) hHeld ?_
            try simp only [Act.put, List.setIfInBounds_toArray, List.set_cons_zero, List.set_cons_succ]
            refine wpAnyH_take (i := 34) (oi := ⟨some 55, .load 3 (.tmp 54), 3, "check.go:251", #[⟨33, .data⟩, ⟨29, .guard⟩], some (29, true)⟩) (v := undef) rfl (by kernel_rfl) (by kernel_rfl) (by kernel_rfl) (fun _ _ _ h => h) (Or.inr ⟨by rfl, rfl⟩) hHeld ?_
            try simp only [Act.put, List.setIfInBounds_toArray, List.set_cons_zero, List.set_cons_succ]
            refine wpAnyH_take (i := 35) (oi := ⟨some 56, .binOp .eql 3 (.tmp 53) (.tmp 55) 3, 4, "check.go:251", #[⟨32, .data⟩, ⟨34, .data⟩, ⟨29, .guard⟩], some (29, true)⟩) (v := undef) rfl (by kernel_rfl) (by kernel_rfl) (by kernel_rfl) (fun _ _ _ h => h) (Or.inr ⟨by rfl, rfl⟩) hHeld ?_
            try simp only [Act.put, List.setIfInBounds_toArray, List.set_cons_zero, List.set_cons_succ]
            refine wpAnyH_take (i := 36) (oi := ⟨some 57, .pick (.tmp 50) (.tmp 56) (.const (.bool false)), 4, "check.go:251", #[⟨29, .data⟩, ⟨35, .data⟩], none⟩) (v := ?v36_75) rfl (by kernel_rfl) (by kernel_rfl) (by kernel_rfl) (fun _ _ _ h => h) (Or.inl ⟨by rfl, ?hy36_75⟩) hHeld ?rest36_75
            case hy36_75 => (intro W hSW; (try dsimp only at hSW); go_simp; try with_reducible rfl)
            try simp only [Act.put, List.setIfInBounds_toArray, List.set_cons_zero, List.set_cons_succ]
            refine wpAnyH_take (i := 37) (oi := ⟨some 58, .move (.tmp 57), 4, "check.go:251", #[⟨36, .data⟩, ⟨29, .chain⟩], none⟩) (v := ?v37_76) rfl (by kernel_rfl) (by kernel_rfl) (by kernel_rfl) (fun _ _ _ h => h) (Or.inl ⟨by rfl, ?hy37_76⟩) hHeld ?rest37_76
            case hy37_76 => (intro W hSW; (try dsimp only at hSW); go_simp; try with_reducible rfl)
            try simp only [Act.put, List.setIfInBounds_toArray, List.set_cons_zero, List.set_cons_succ]
            refine wpAnyH_take (i := 38) (oi := ⟨some 59, .fieldAddr 24 (.tmp 3) 4, 0, "check.go:251", #[⟨37, .guard⟩], some (37, true)⟩) (v := undef) rfl (by kernel_rfl) (by kernel_rfl) (by kernel_rfl) (fun _ _ _ h => h) (Or.inr ⟨by rfl, rfl⟩) hHeld ?_
            try simp only [Act.put, List.setIfInBounds_toArray, List.set_cons_zero, List.set_cons_succ]
            refine wpAnyH_take (i := 39) (oi := ⟨some 60, .load 22 (.tmp 59), 22, "check.go:251", #[⟨38, .data⟩, ⟨37, .guard⟩], some (37, true)⟩) (v := undef) rfl (by kernel_rfl) (by kernel_rfl) (by kernel_rfl) (fun _ _ _ h => h) (Or.inr ⟨by rfl, rfl⟩) hHeld ?_
            try simp only [Act.put, List.setIfInBounds_toArray, List.set_cons_zero, List.set_cons_succ]
            refine wpAnyH_take (i := 40) (oi := ⟨some 61, .load 51 (.tmp 2), 51, "check.go:251", #[⟨37, .guard⟩], some (37, true)⟩) (v := undef) rfl (by kernel_rfl) (by kernel_rfl) (by kernel_rfl) (fun _ _ _ h => h) (Or.inr ⟨by rfl, rfl⟩) hHeld ?_
            try simp only [Act.put, List.setIfInBounds_toArray, List.set_cons_zero, List.set_cons_succ]
            refine wpAnyH_ready (rs := [41]) (by kernel_rfl) (by simp) ?_
            refine AllReadyH.cons (o := ⟨some 62, .call { callee := .value (.func 65), args := #[.tmp 61], argTypes := #[51] }, 51, "check.go:253", #[⟨40, .data⟩, ⟨37, .chain⟩, ⟨37, .guard⟩], some (37, true)⟩) rfl (fun K hK => ?_) AllReadyH.nil
            go_simp
            refine hK.out _ _ hHeld (fun _ => ?_)
            clear hK K
            try simp only [Act.put, List.setIfInBounds_toArray, List.set_cons_zero, List.set_cons_succ]
            refine wpAnyH_ready (rs := [42]) (by kernel_rfl) (by simp) ?_
            refine AllReadyH.cons (o := ⟨some 63, .makeFunc (.func 25) #[.tmp 62] #[], 53, "check.go:251", #[⟨41, .data⟩, ⟨37, .guard⟩], some (37, true)⟩) rfl (fun K hK => ?_) AllReadyH.nil
            go_simp
            refine hK.out _ _ hHeld (fun _ => ?_)
            clear hK K
            try simp only [Act.put, List.setIfInBounds_toArray, List.set_cons_zero, List.set_cons_succ]
            refine wpAnyH_ready (rs := [43]) (by kernel_rfl) (by simp) ?_
            refine AllReadyH.cons (o := ⟨some 64, .call { callee := .value (.func 64), args := #[.tmp 60, .tmp 63], argTypes := #[22, 53] }, 4, "check.go:253", #[⟨39, .data⟩, ⟨42, .data⟩, ⟨41, .chain⟩, ⟨37, .guard⟩], some (37, true)⟩) rfl (fun K hK => ?_) AllReadyH.nil
            go_simp
            refine hK.out _ _ hHeld (fun _ => ?_)
            clear hK K
            try simp only [Act.put, List.setIfInBounds_toArray, List.set_cons_zero, List.set_cons_succ]
            refine wpAnyH_take (i := 44) (oi := ⟨some 65, .pick (.tmp 58) (.tmp 64) (.const (.bool false)), 4, "check.go:251", #[⟨37, .data⟩, ⟨43, .data⟩], none⟩) (v := ?v44_77) rfl (by kernel_rfl) (by kernel_rfl) (by kernel_rfl) (fun _ _ _ h => h) (Or.inl ⟨by rfl, ?hy44_77⟩) hHeld ?rest44_77
            case hy44_77 => (intro W hSW; (try dsimp only at hSW); go_simp; try with_reducible rfl)
            try simp only [Act.put, List.setIfInBounds_toArray, List.set_cons_zero, List.set_cons_succ]
            refine wpAnyH_take (i := 45) (oi := ⟨some 4, .assign (.tmp 65), 4, "check.go:251", #[⟨44, .data⟩, ⟨43, .chain⟩, ⟨0, .phase⟩, ⟨1, .phase⟩, ⟨2, .phase⟩, ⟨3, .phase⟩, ⟨4, .phase⟩, ⟨5, .phase⟩, ⟨6, .phase⟩, ⟨7, .phase⟩, ⟨8, .phase⟩, ⟨9, .phase⟩, ⟨10, .phase⟩, ⟨11, .phase⟩, ⟨12, .phase⟩, ⟨13, .phase⟩, ⟨14, .phase⟩, ⟨15, .phase⟩, ⟨16, .phase⟩, ⟨17, .phase⟩, ⟨18, .phase⟩, ⟨19, .phase⟩, ⟨20, .phase⟩, ⟨21, .phase⟩, ⟨22, .phase⟩, ⟨23, .phase⟩, ⟨24, .phase⟩, ⟨25, .phase⟩, ⟨26, .phase⟩, ⟨27, .phase⟩, ⟨28, .phase⟩, ⟨29, .phase⟩, ⟨30, .phase⟩, ⟨31, .phase⟩, ⟨32, .phase⟩, ⟨33, .phase⟩, ⟨34, .phase⟩, ⟨35, .phase⟩, ⟨36, .phase⟩, ⟨37, .phase⟩, ⟨38, .phase⟩, ⟨39, .phase⟩, ⟨40, .phase⟩, ⟨41, .phase⟩, ⟨42, .phase⟩, ⟨43, .phase⟩, ⟨44, .phase⟩], none⟩) (v := ?v45_78) rfl (by kernel_rfl) (by kernel_rfl) (by kernel_rfl) (fun _ _ _ h => h) (Or.inl ⟨by rfl, ?hy45_78⟩) hHeld ?rest45_78
            case hy45_78 => (intro W hSW; (try dsimp only at hSW); go_simp; try with_reducible rfl)
            try simp only [Act.put, List.setIfInBounds_toArray, List.set_cons_zero, List.set_cons_succ]
            refine wpAnyH_done (by kernel_rfl) ?_ _
            have HS := Lib.hid hHeld
            clear hHeld
            go_wp2_with fail
            go_ret
            exact ⟨by rw [HO.out]; simp [*], HS.out.2.2.2.2.2.2.2.2.2.2.2⟩
          | true =>
            refine wpAnyH_ready (rs := [27]) (by kernel_rfl) (by simp) ?_
            refine AllReadyH.cons (o := ⟨some 48, .call { callee := .value (.func 63), args := #[.tmp 43, .tmp 45, .tmp 47], argTypes := #[51, 4, 9] }, 4, "check.go:252", #[⟨22, .data⟩, ⟨24, .data⟩, ⟨26, .data⟩, ⟨21, .chain⟩, ⟨21, .guard⟩], some (21, true)⟩) rfl (fun K hK => ?_) AllReadyH.nil
            go_simp
            go_at_call 63
            refine (N2.out _ hHeld).mono ?_
            rintro e w7 ⟨rfl, s7⟩
            clear hHeld
            have hHeld := s7
            clear s7
            refine hK.out _ _ hHeld (fun _ => ?_)
            clear hK K
            try simp only [Act.put, List.setIfInBounds_toArray, List.set_cons_zero, List.set_cons_succ]
            refine wpAnyH_take (i := 28) (oi := ⟨some 49, .pick (.tmp 42) (.tmp 48) (.const (.bool false)), 4, "check.go:251", #[⟨21, .data⟩, ⟨27, .data⟩], none⟩) (v := ?v28_79) rfl (by kernel_rfl) (by kernel_rfl) (by kernel_rfl) (fun _ _ _ h => h) (Or.inl ⟨by rfl, ?hy28_79⟩) hHeld ?rest28_79
            case hy28_79 => (intro W hSW; (try dsimp only at hSW); go_simp; try with_reducible rfl)
            try simp only [Act.put, List.setIfInBounds_toArray, List.set_cons_zero, List.set_cons_succ]
            refine wpAnyH_take (i := 29) (oi := ⟨some 50, .move (.tmp 49), 4, "check.go:251", #[⟨28, .data⟩, ⟨27, .chain⟩], none⟩) (v := ?v29_80) rfl (by kernel_rfl) (by kernel_rfl) (by kernel_rfl) (fun _ _ _ h => h) (Or.inl ⟨by rfl, ?hy29_80⟩) hHeld ?rest29_80
            case hy29_80 => (intro W hSW; (try dsimp only at hSW); go_simp; try with_reducible rfl)
            try simp only [Act.put, List.setIfInBounds_toArray, List.set_cons_zero, List.set_cons_succ]
            refine wpAnyH_take (i := 30) (oi := ⟨some 51, .fieldAddr 24 (.tmp 3) 4, 0, "check.go:251", #[⟨29, .guard⟩], some (29, true)⟩) (v := ?v30_81) rfl (by kernel_rfl) (by kernel_rfl) (by kernel_rfl) (fun _ _ _ h => h) (Or.inl ⟨by rfl, ?hy30_81⟩) hHeld ?rest30_81
            case hy30_81 => (intro W hSW; (try dsimp only at hSW); go_simp; try with_reducible rfl)
            try simp only [Act.put, List.setIfInBounds_toArray, List.set_cons_zero, List.set_cons_succ]
            refine wpAnyH_take (i := 31) (oi := ⟨some 52, .load 22 (.tmp 51), 22, "check.go:251", #[⟨30, .data⟩, ⟨29, .guard⟩], some (29, true)⟩) (v := ?v31_82) rfl (by kernel_rfl) (by kernel_rfl) (by kernel_rfl) (fun _ _ _ h => h) (Or.inl ⟨by rfl, ?hy31_82⟩) hHeld ?rest31_82
            case hy31_82 => (intro W hSW; (try dsimp only at hSW); go_simp; try with_reducible rfl)
            try simp only [Act.put, List.setIfInBounds_toArray, List.set_cons_zero, List.set_cons_succ]
            refine wpAnyH_take (i := 32) (oi := ⟨some 53, .call { callee := .builtin .len, args := #[.tmp 52], argTypes := #[22] }, 3, "check.go:251", #[⟨31, .data⟩, ⟨29, .guard⟩], some (29, true)⟩) (v := ?v32_83) rfl (by kernel_rfl) (by kernel_rfl) (by kernel_rfl) (fun _ _ _ h => h) (Or.inl ⟨by rfl, ?hy32_83⟩) hHeld ?rest32_83
            case hy32_83 => (intro W hSW; (try dsimp only at hSW); go_simp; try with_reducible rfl)
            try simp only [Act.put, List.setIfInBounds_toArray, List.set_cons_zero, List.set_cons_succ]
            refine wpAnyH_take (i := 33) (oi := ⟨some 54, .fieldAddr 110 (.tmp 5) 3, 0, "check.go:251", #[⟨29, .guard⟩], some (29, true)⟩) (v := ?v33_84) rfl (by kernel_rfl) (by kernel_rfl) (by kernel_rfl) (fun _ _ _ h => h) (Or.inl ⟨by rfl, ?hy33_84⟩) hHeld ?rest33_84
            case hy33_84 => (intro W hSW; (try dsimp only at hSW); go_simp; try with_reducible rfl)
            try simp only [Act.put, List.setIfInBounds_toArray, List.set_cons_zero, List.set_cons_succ]
            refine wpAnyH_take (i := 34) (oi := ⟨some 55, .load 3 (.tmp 54), 3, "check.go:251", #[⟨33, .data⟩, ⟨29, .guard⟩], some (29, true)⟩) (v := ?v34_85) rfl (by kernel_rfl) (by kernel_rfl) (by kernel_rfl) (fun _ _ _ h => h) (Or.inl ⟨by rfl, ?hy34_85⟩) hHeld ?rest34_85
            case hy34_85 => (intro W hSW; (try dsimp only at hSW); go_simp; try with_reducible rfl)
            try simp only [Act.put, List.setIfInBounds_toArray, List.set_cons_zero, List.set_cons_succ]
            cases hln : (((l.length : Nat) : Int) == fo) with
            | false =>
              refine wpAnyH_take (i := 35) (oi := ⟨some 56, .binOp .eql 3 (.tmp 53) (.tmp 55) 3, 4, "check.go:251", #[⟨32, .data⟩, ⟨34, .data⟩, ⟨29, .guard⟩], some (29, true)⟩) (v := ?v35_86) rfl (by kernel_rfl) (by kernel_rfl) (by kernel_rfl) (fun _ _ _ h => h) (Or.inl ⟨by rfl, ?hy35_86⟩) hHeld ?rest35_86
              case hy35_86 => (intro W hSW; (try dsimp only at hSW); go_simp; try with_reducible rfl)
              try simp only [Act.put, List.setIfInBounds_toArray, List.set_cons_zero, List.set_cons_succ]
              refine wpAnyH_take (i := 36) (oi := ⟨some 57, .pick (.tmp 50) (.tmp 56) (.const (.bool false)), 4, "check.go:251", #[⟨29, .data⟩, ⟨35, .data⟩], none⟩) (v := ?v36_87) rfl (by kernel_rfl) (by kernel_rfl) (by kernel_rfl) (fun _ _ _ h => h) (Or.inl ⟨by rfl, ?hy36_87⟩) hHeld ?rest36_87
              case hy36_87 => (intro W hSW; (try dsimp only at hSW); go_simp; try with_reducible rfl)
              try simp only [Act.put, List.setIfInBounds_toArray, List.set_cons_zero, List.set_cons_succ]
              refine wpAnyH_take (i := 37) (oi := ⟨some 58, .move (.tmp 57), 4, "check.go:251", #[⟨36, .data⟩, ⟨29, .chain⟩], none⟩) (v := ?v37_88) rfl (by kernel_rfl) (by kernel_rfl) (by kernel_rfl) (fun _ _ _ h => h) (Or.inl ⟨by rfl, ?hy37_88⟩) hHeld ?rest37_88
              case hy37_88 => (intro W hSW; (try dsimp only at hSW); go_simp; try with_reducible rfl)
              try simp only [Act.put, List.setIfInBounds_toArray, List.set_cons_zero, List.set_cons_succ]
              refine wpAnyH_take (i := 38) (oi := ⟨some 59, .fieldAddr 24 (.tmp 3) 4, 0, "check.go:251", #[⟨37, .guard⟩], some (37, true)⟩) (v := undef) rfl (by kernel_rfl) (by kernel_rfl) (by kernel_rfl) (fun _ _ _ h => h) (Or.inr ⟨by rfl, rfl⟩) hHeld ?_
              try simp only [Act.put, List.setIfInBounds_toArray, List.set_cons_zero, List.set_cons_succ]
              refine wpAnyH_take (i := 39) (oi := ⟨some 60, .load 22 (.tmp 59), 22, "check.go:251", #[⟨38, .data⟩, ⟨37, .guard⟩], some (37, true)⟩) (v := undef) rfl (by kernel_rfl) (by kernel_rfl) (by kernel_rfl) (fun _ _ _ h => h) (Or.inr ⟨by rfl, rfl⟩) hHeld ?_
              try simp only [Act.put, List.setIfInBounds_toArray, List.set_cons_zero, List.set_cons_succ]
              refine wpAnyH_take (i := 40) (oi := ⟨some 61, .load 51 (.tmp 2), 51, "check.go:251", #[⟨37, .guard⟩], some (37, true)⟩) (v := undef) rfl (by kernel_rfl) (by kernel_rfl) (by kernel_rfl) (fun _ _ _ h => h) (Or.inr ⟨by rfl, rfl⟩) hHeld ?_
              try simp only [Act.put, List.setIfInBounds_toArray, List.set_cons_zero, List.set_cons_succ]
              refine wpAnyH_ready (rs := [41]) (by kernel_rfl) (by simp) ?_
              refine AllReadyH.cons (o := ⟨some 62, .call { callee := .value (.func 65), args := #[.tmp 61], argTypes := #[51] }, 51, "check.go:253", #[⟨40, .data⟩, ⟨37, .chain⟩, ⟨37, .guard⟩], some (37, true)⟩) rfl (fun K hK => ?_) AllReadyH.nil
              go_simp
              refine hK.out _ _ hHeld (fun _ => ?_)
              clear hK K
              try simp only [Act.put, List.setIfInBounds_toArray, List.set_cons_zero, List.set_cons_succ]
              refine wpAnyH_ready (rs := [42]) (by kernel_rfl) (by simp) ?_
              refine AllReadyH.cons (o := ⟨some 63, .makeFunc (.func 25) #[.tmp 62] #[], 53, "check.go:251", #[⟨41, .data⟩, ⟨37, .guard⟩], some (37, true)⟩) rfl (fun K hK => ?_) AllReadyH.nil
              go_simp
              refine hK.out _ _ hHeld (fun _ => ?_)
              clear hK K
              try simp only [Act.put, List.setIfInBounds_toArray, List.set_cons_zero, List.set_cons_succ]
              refine wpAnyH_ready (rs := [43]) (by kernel_rfl) (by simp) ?_
              refine AllReadyH.cons (o := ⟨some 64, .call { callee := .value (.func 64), args := #[.tmp 60, .tmp 63], argTypes := #[22, 53] }, 4, "check.go:253", #[⟨39, .data⟩, ⟨42, .data⟩, ⟨41, .chain⟩, ⟨37, .guard⟩], some (37, true)⟩) rfl (fun K hK => ?_) AllReadyH.nil
              go_simp
              refine hK.out _ _ hHeld (fun _ => ?_)
              clear hK K
              try simp only [Act.put, List.setIfInBounds_toArray, List.set_cons_zero, List.set_cons_succ]
              refine wpAnyH_take (i := 44) (oi := ⟨some 65, .pick (.tmp 58) (.tmp 64) (.const (.bool false)), 4, "check.go:251", #[⟨37, .data⟩, ⟨43, .data⟩], none⟩) (v := ?v44_89) rfl (by kernel_rfl) (by kernel_rfl) (by kernel_rfl) (fun _ _ _ h => h) (Or.inl ⟨by rfl, ?hy44_89⟩) hHeld ?rest44_89
              case hy44_89 => (intro W hSW; (try dsimp only at hSW); go_simp; try with_reducible rfl)
              try simp only [Act.put, List.setIfInBounds_toArray, List.set_cons_zero, List.set_cons_succ]
              refine wpAnyH_take (i := 45) (oi := ⟨some 4, .assign (.tmp 65), 4, "check.go:251", #[⟨44, .data⟩, ⟨43, .chain⟩, ⟨0, .phase⟩, ⟨1, .phase⟩, ⟨2, .phase⟩, ⟨3, .phase⟩, ⟨4, .phase⟩, ⟨5, .phase⟩, ⟨6, .phase⟩, ⟨7, .phase⟩, ⟨8, .phase⟩, ⟨9, .phase⟩, ⟨10, .phase⟩, ⟨11, .phase⟩, ⟨12, .phase⟩, ⟨13, .phase⟩, ⟨14, .phase⟩, ⟨15, .phase⟩, ⟨16, .phase⟩, ⟨17, .phase⟩, ⟨18, .phase⟩, ⟨19, .phase⟩, ⟨20, .phase⟩, ⟨21, .phase⟩, ⟨22, .phase⟩, ⟨23, .phase⟩, ⟨24, .phase⟩, ⟨25, .phase⟩, ⟨26, .phase⟩, ⟨27, .phase⟩, ⟨28, .phase⟩, ⟨29, .phase⟩, ⟨30, .phase⟩, ⟨31, .phase⟩, ⟨32, .phase⟩, ⟨33, .phase⟩, ⟨34, .phase⟩, ⟨35, .phase⟩, ⟨36, .phase⟩, ⟨37, .phase⟩, ⟨38, .phase⟩, ⟨39, .phase⟩, ⟨40, .phase⟩, ⟨41, .phase⟩, ⟨42, .phase⟩, ⟨43, .phase⟩, ⟨44, .phase⟩], none⟩) (v := ?v45_90) rfl (by kernel_rfl) (by kernel_rfl) (by kernel_rfl) (fun _ _ _ h => h) (Or.inl ⟨by rfl, ?hy45_90⟩) hHeld ?rest45_90
              case hy45_90 => (intro W hSW; (try dsimp only at hSW); go_simp; try with_reducible rfl)
              try simp only [Act.put, List.setIfInBounds_toArray, List.set_cons_zero, List.set_cons_succ]
              refine wpAnyH_done (by kernel_rfl) ?_ _
              have HS := Lib.hid hHeld
              clear hHeld
              go_wp2_with fail
              go_ret
              exact ⟨by rw [HO.out]; simp [*], HS.out.2.2.2.2.2.2.2.2.2.2.2⟩
            | true =>
              refine wpAnyH_take (i := 35) (oi := ⟨some 56, .binOp .eql 3 (.tmp 53) (.tmp 55) 3, 4, "check.go:251", #[⟨32, .data⟩, ⟨34, .data⟩, ⟨29, .guard⟩], some (29, true)⟩) (v := ?v35_91) rfl (by kernel_rfl) (by kernel_rfl) (by kernel_rfl) (fun _ _ _ h => h) (Or.inl ⟨by rfl, ?hy35_91⟩) hHeld ?rest35_91
              case hy35_91 => (intro W hSW; (try dsimp only at hSW); go_simp; try with_reducible rfl)
              try simp only [Act.put, List.setIfInBounds_toArray, List.set_cons_zero, List.set_cons_succ]
              refine wpAnyH_take (i := 36) (oi := ⟨some 57, .pick (.tmp 50) (.tmp 56) (.const (.bool false)), 4, "check.go:251", #[⟨29, .data⟩, ⟨35, .data⟩], none⟩) (v := ?v36_92) rfl (by kernel_rfl) (by kernel_rfl) (by kernel_rfl) (fun _ _ _ h => h) (Or.inl ⟨by rfl, ?hy36_92⟩) hHeld ?rest36_92
              case hy36_92 => (intro W hSW; (try dsimp only at hSW); go_simp; try with_reducible rfl)
              try simp only [Act.put, List.setIfInBounds_toArray, List.set_cons_zero, List.set_cons_succ]
              refine wpAnyH_take (i := 37) (oi := ⟨some 58, .move (.tmp 57), 4, "check.go:251", #[⟨36, .data⟩, ⟨29, .chain⟩], none⟩) (v := ?v37_93) rfl (by kernel_rfl) (by kernel_rfl) (by kernel_rfl) (fun _ _ _ h => h) (Or.inl ⟨by rfl, ?hy37_93⟩) hHeld ?rest37_93
              case hy37_93 => (intro W hSW; (try dsimp only at hSW); go_simp; try with_reducible rfl)
              try simp only [Act.put, List.setIfInBounds_toArray, List.set_cons_zero, List.set_cons_succ]
              refine wpAnyH_take (i := 38) (oi := ⟨some 59, .fieldAddr 24 (.tmp 3) 4, 0, "check.go:251", #[⟨37, .guard⟩], some (37, true)⟩) (v := ?v38_94) rfl (by kernel_rfl) (by kernel_rfl) (by kernel_rfl) (fun _ _ _ h => h) (Or.inl ⟨by rfl, ?hy38_94⟩) hHeld ?rest38_94
              case hy38_94 => (intro W hSW; (try dsimp only at hSW); go_simp; try with_reducible rfl)
              try simp only [Act.put, List.setIfInBounds_toArray, List.set_cons_zero, List.set_cons_succ]
              refine wpAnyH_take (i := 39) (oi := ⟨some 60, .load 22 (.tmp 59), 22, "check.go:251", #[⟨38, .data⟩, ⟨37, .guard⟩], some (37, true)⟩) (v := ?v39_95) rfl (by kernel_rfl) (by kernel_rfl) (by kernel_rfl) (fun _ _ _ h => h) (Or.inl ⟨by rfl, ?hy39_95⟩) hHeld ?rest39_95
              case hy39_95 => (intro W hSW; (try dsimp only at hSW); go_simp; try with_reducible rfl)
              try simp only [Act.put, List.setIfInBounds_toArray, List.set_cons_zero, List.set_cons_succ]
              refine wpAnyH_take (i := 40) (oi := ⟨some 61, .load 51 (.tmp 2), 51, "check.go:251", #[⟨37, .guard⟩], some (37, true)⟩) (v := ?v40_96) rfl (by kernel_rfl) (by kernel_rfl) (by kernel_rfl) (fun _ _ _ h => h) (Or.inl ⟨by rfl, ?hy40_96⟩) hHeld ?rest40_96
              case hy40_96 => (intro W hSW; (try dsimp only at hSW); go_simp; try with_reducible rfl)
              try simp only [Act.put, List.setIfInBounds_toArray, List.set_cons_zero, List.set_cons_succ]
              refine wpAnyH_ready (rs := [41]) (by kernel_rfl) (by simp) ?_
              refine AllReadyH.cons (o := ⟨some 62, .call { callee := .value (.func 65), args := #[.tmp 61], argTypes := #[51] }, 51, "check.go:253", #[⟨40, .data⟩, ⟨37, .chain⟩, ⟨37, .guard⟩], some (37, true)⟩) rfl (fun K hK => ?_) AllReadyH.nil
              go_simp
              go_at_call 65
              refine (DP.out _ hHeld).mono ?_
              rintro e w7 ⟨rfl, s7⟩
              clear hHeld
              have hHeld := s7
              clear s7
              refine hK.out _ _ hHeld (fun _ => ?_)
              clear hK K
              try simp only [Act.put, List.setIfInBounds_toArray, List.set_cons_zero, List.set_cons_succ]
              refine wpAnyH_ready (rs := [42]) (by kernel_rfl) (by simp) ?_
              refine AllReadyH.cons (o := ⟨some 63, .makeFunc (.func 25) #[.tmp 62] #[], 53, "check.go:251", #[⟨41, .data⟩, ⟨37, .guard⟩], some (37, true)⟩) rfl (fun K hK => ?_) AllReadyH.nil
              go_simp
              refine hK.out _ _ hHeld (fun _ => ?_)
              clear hK K
              try simp only [Act.put, List.setIfInBounds_toArray, List.set_cons_zero, List.set_cons_succ]
              refine wpAnyH_ready (rs := [43]) (by kernel_rfl) (by simp) ?_
              refine AllReadyH.cons (o := ⟨some 64, .call { callee := .value (.func 64), args := #[.tmp 60, .tmp 63], argTypes := #[22, 53] }, 4, "check.go:253", #[⟨39, .data⟩, ⟨42, .data⟩, ⟨41, .chain⟩, ⟨37, .guard⟩], some (37, true)⟩) rfl (fun K hK => ?_) AllReadyH.nil
              go_simp
              go_at_call 64
              refine (AL.out _ hHeld).mono ?_
              rintro e w7 ⟨rfl, s7⟩
              clear hHeld
              have hHeld := s7
              clear s7
              refine hK.out _ _ hHeld (fun _ => ?_)
              clear hK K
              try simp only [Act.put, List.setIfInBounds_toArray, List.set_cons_zero, List.set_cons_succ]
              refine wpAnyH_take (i := 44) (oi := ⟨some 65, .pick (.tmp 58) (.tmp 64) (.const (.bool false)), 4, "check.go:251", #[⟨37, .data⟩, ⟨43, .data⟩], none⟩) (v := ?v44_97) rfl (by kernel_rfl) (by kernel_rfl) (by kernel_rfl) (fun _ _ _ h => h) (Or.inl ⟨by rfl, ?hy44_97⟩) hHeld ?rest44_97
              case hy44_97 => (intro W hSW; (try dsimp only at hSW); go_simp; try with_reducible rfl)
              try simp only [Act.put, List.setIfInBounds_toArray, List.set_cons_zero, List.set_cons_succ]
              refine wpAnyH_take (i := 45) (oi := ⟨some 4, .assign (.tmp 65), 4, "check.go:251", #[⟨44, .data⟩, ⟨43, .chain⟩, ⟨0, .phase⟩, ⟨1, .phase⟩, ⟨2, .phase⟩, ⟨3, .phase⟩, ⟨4, .phase⟩, ⟨5, .phase⟩, ⟨6, .phase⟩, ⟨7, .phase⟩, ⟨8, .phase⟩, ⟨9, .phase⟩, ⟨10, .phase⟩, ⟨11, .phase⟩, ⟨12, .phase⟩, ⟨13, .phase⟩, ⟨14, .phase⟩, ⟨15, .phase⟩, ⟨16, .phase⟩, ⟨17, .phase⟩, ⟨18, .phase⟩, ⟨19, .phase⟩, ⟨20, .phase⟩, ⟨21, .phase⟩, ⟨22, .phase⟩, ⟨23, .phase⟩, ⟨24, .phase⟩, ⟨25, .phase⟩, ⟨26, .phase⟩, ⟨27, .phase⟩, ⟨28, .phase⟩, ⟨29, .phase⟩, ⟨30, .phase⟩, ⟨31, .phase⟩, ⟨32, .phase⟩, ⟨33, .phase⟩, ⟨34, .phase⟩, ⟨35, .phase⟩, ⟨36, .phase⟩, ⟨37, .phase⟩, ⟨38, .phase⟩, ⟨39, .phase⟩, ⟨40, .phase⟩, ⟨41, .phase⟩, ⟨42, .phase⟩, ⟨43, .phase⟩, ⟨44, .phase⟩], none⟩) (v := ?v45_98) rfl (by kernel_rfl) (by kernel_rfl) (by kernel_rfl) (fun _ _ _ h => h) (Or.inl ⟨by rfl, ?hy45_98⟩) hHeld ?rest45_98
              case hy45_98 => (intro W hSW; (try dsimp only at hSW); go_simp; try with_reducible rfl)
              try simp only [Act.put, List.setIfInBounds_toArray, List.set_cons_zero, List.set_cons_succ]
              refine wpAnyH_done (by kernel_rfl) ?_ _
              have HS := Lib.hid hHeld
              clear hHeld
              go_wp2_with fail
              go_ret
              exact ⟨by rw [HO.out]; simp [*], HS.out.2.2.2.2.2.2.2.2.2.2.2⟩
end Go.Proofs.YtciijpahjjoppaaGreat
end
