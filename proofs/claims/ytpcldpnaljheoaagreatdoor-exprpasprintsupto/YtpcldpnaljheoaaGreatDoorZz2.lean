/-
  Texts of this proof, put together.
-/
import Derived.Test.YtpcldpnaljheoaaGreatDoorZz1
import Derived.Deep.RegionHeld3
import Derived.Deep.RegionWith
section
namespace Go.Proofs.YtpcldpnaljheoaaGreatDoor
open Go.RowKit Go.Deep Go.Maps

def upD (d : Int) : List D → Bool
  | [.int op, .int n, .str nm, .str fd, .row l] => upE d op n nm fd l.length
  | _ => false
def callE (d n : Int) (nm fd : ByteArray) (l : List (List D)) (f : List D → Bool) : Bool := (n == 0) && (fd.toList.isEmpty && (okR d nm && (decide (l.length ≤ 512) && (okAll (l.take (firstU d l)) f && okAll (l.drop (firstU d l)) (upD d)))))
def formE (d op n : Int) (nm fd : ByteArray) (l : List (List D)) (f : List D → Bool) : Bool := fok op && (decide (0 ≤ n) && (decide (n ≤ fmost op) && (nameW d (fname op) nm && (nameW d (ffield op) fd && ((((l.length : Nat) : Int) == fops op) && okAll l f)))))
/-- What checker.expr answers; k: how many may yet stand within. -/
def okE (d : Int) : Nat → List D → Bool
  | 0, _ => false
  | k + 1, [.int op, .int n, .str nm, .str fd, .row l] => if op == 7 then callE d n nm fd l (okE d k) else formE d op n nm fd l (okE d k)
  | _ + 1, _ => false
theorem below_drew0 {B : Nat} {a w : World} (h : Below B a w) : Below B a w.drew := ⟨h.os, h.tape, h.output, h.size, h.block⟩
def Since (w W : World) : Prop := Below w.heap.size w W
theorem Since.step {w W W' : World} (h : Since w W) (b : Below W.heap.size W W') : Since w W' := Below.trans h (b.mono (Below.size h))
theorem cell_stays {W W' : World} {b i : Nat} {v : Value} (h : W.cell? ⟨b, i, none⟩ = some v) (k : Below W.heap.size W W') : W'.cell? ⟨b, i, none⟩ = some v := (k.cell (p := ⟨b, i, none⟩) (block_lt_of_cell h)).trans h
def ExS (w : World) (r : Nat) (d : Int) (ar : Nat) (op n : Int) (nm fd : ByteArray) (la : Option Addr) (l : List (List D)) (lc : Nat) (fm : Int) (fn ff : Bool) (fo : Int) (W : World) : Prop := W.cell? ⟨w.heap.size, 0, none⟩ = some (.int .i64 d) ∧ W.cell? ⟨w.heap.size, 1, none⟩ = some (.int .i64 ar) ∧ W.cell? ⟨w.heap.size + 1, 0, none⟩ = some (.int .i64 op) ∧ W.cell? ⟨w.heap.size + 1, 1, none⟩ = some (.int .i64 n) ∧ W.cell? ⟨w.heap.size + 1, 2, none⟩ = some (.string nm) ∧ W.cell? ⟨w.heap.size + 1, 3, none⟩ = some (.string fd) ∧ W.cell? ⟨w.heap.size + 1, 4, none⟩ = some (.slice la l.length lc) ∧ W.cell? ⟨r, 0, none⟩ = some (.int .i64 fm) ∧ W.cell? ⟨r, 1, none⟩ = some (.bool fn) ∧ W.cell? ⟨r, 2, none⟩ = some (.bool ff) ∧ W.cell? ⟨r, 3, none⟩ = some (.int .i64 fo) ∧ Since w W
theorem ExS.step {w : World} {r : Nat} {d : Int} {ar : Nat} {op n : Int} {nm fd : ByteArray} {la : Option Addr} {l : List (List D)} {lc : Nat} {fm : Int} {fn ff : Bool} {fo : Int} {W W' : World} (h : ExS w r d ar op n nm fd la l lc fm fn ff fo W) (b : Below W.heap.size W W') : ExS w r d ar op n nm fd la l lc fm fn ff fo W' := by
  obtain ⟨h1, h2, h3, h4, h5, h6, h7, h8, h9, h10, h11, h12⟩ := h
  exact ⟨cell_stays h1 b, cell_stays h2 b, cell_stays h3 b, cell_stays h4 b, cell_stays h5 b, cell_stays h6 b, cell_stays h7 b, cell_stays h8 b, cell_stays h9 b, cell_stays h10 b, cell_stays h11 b, h12.step b⟩
set_option maxRecDepth 100000 in
set_option maxHeartbeats 4000000 in
theorem expr_form (w0 : World) (d : Int) (ar k : Nat) (hk : ar + (k + 1) = 48) (op n : Int) (nm fd : ByteArray) (la : Option Addr) (l : List (List D)) (lc : Nat) (hop : (op == 7) = false) (hnm : nm.size ≤ maxLen) (hfd : fd.size ≤ maxLen) (hA : At w0 (.slice la l.length lc) (.row l)) (hs : ∀ x ∈ l, ShE x)
    (hf : OkFn w0 91 (.agg #[.int .i64 d, .int .i64 ((ar + 1 : Nat) : Int)]) l (okE d k)) (w : World) (hW : Below w0.heap.size w0 w) :
    Calls Tryz.prog 91 #[.agg #[.int .i64 d, .int .i64 ar], .agg #[.int .i64 op, .int .i64 n, .string nm, .string fd, .slice la l.length lc]] w fun e w' => e = .returned (.bool (formE d op n nm fd l (okE d k))) ∧ Below w.heap.size w w' := by
  have hdp : decide ((48 : Int) ≤ (ar : Int)) = false := by simp; omega
  have HL := Lib.hid (fun (W : World) (hW : Below w0.heap.size w0 W) => allE_any w0 91 (.agg #[.int .i64 d, .int .i64 ((ar + 1 : Nat) : Int)]) (okE d k) la l.length lc l hA hs hf (enters_of Tryz.func91 (by kernel_rfl) rfl) W hW)
  have HW := Lib.hid hW
  have KP := Lib.hid (box_first w (.cells #[.int .i64 d, .int .i64 ar] 140) (.cells #[.int .i64 op, .int .i64 n, .string nm, .string fd, .slice la l.length lc] 25))
  have KQ := Lib.hid (box_second w (.cells #[.int .i64 d, .int .i64 ar] 140) (.cells #[.int .i64 op, .int .i64 n, .string nm, .string fd, .slice la l.length lc] 25))
  have R0 := Lib.hid (((Below.refl w.heap.size w).alloc (Nat.le_refl _) (.cells #[.int .i64 d, .int .i64 ar] 140)).alloc (by simp) (.cells #[.int .i64 op, .int .i64 n, .string nm, .string fd, .slice la l.length lc] 25))
  clear hA hs hf hW
  go_enter Tryz.func91, Tryz.ntmps91
  go_wp2_with fail
  refine (tooDeep_any d ar _).mono ?_
  rintro e w1 ⟨rfl, hw1⟩
  have b1 := (Below.refl _ ((w.alloc (.cells #[.int .i64 d, .int .i64 ar] 140)).alloc (.cells #[.int .i64 op, .int .i64 n, .string nm, .string fd, .slice la l.length lc] 25))).alloc (Nat.le_refl _) (.cells #[.int .i64 d, .int .i64 ar] 140)
  rw [← hw1] at b1
  clear hw1
  have R1 := Lib.hid (R0.out.trans (b1.mono R0.out.size))
  have KP1 := Lib.hid ((b1.block _ (heap_lt KP.out)).trans KP.out)
  have KQ1 := Lib.hid ((b1.block _ (heap_lt KQ.out)).trans KQ.out)
  have cP1 := box_cells KP1.out
  have cQ1 := box_cells KQ1.out
  rw [hdp]
  clear b1
  go_wp2_with fail
  refine (exprForm_any op _).mono ?_
  rintro e w2 ⟨rfl, b2⟩
  have R2 := Lib.hid (R1.out.trans (b2.mono R1.out.size))
  have KP2 := Lib.hid ((b2.block _ (heap_lt KP1.out)).trans KP1.out)
  have KQ2 := Lib.hid ((b2.block _ (heap_lt KQ1.out)).trans KQ1.out)
  have cP2 := box_cells KP2.out
  have cQ2 := box_cells KQ2.out
  clear b2 cP1 cQ1
  have HO := Lib.hid (show formE d op n nm fd l (okE d k) = (fok op && (decide (0 ≤ n) && (decide (n ≤ fmost op) && (nameW d (fname op) nm && (nameW d (ffield op) fd && ((((l.length : Nat) : Int) == fops op) && okAll l (okE d k))))))) from rfl)
  generalize fmost op = fm at *
  generalize fname op = fn at *
  generalize ffield op = ff at *
  generalize fops op = fo at *
  generalize fok op = ok at *
  generalize okAll l (okE d k) = rl at *
  go_wp2_with fail
  have S0 := Lib.hid (show ExS w w2.heap.size d ar op n nm fd la l lc fm fn ff fo (w2.alloc (.cells #[.int .i64 fm, .bool fn, .bool ff, .int .i64 fo] 188)).drew from by
    have b3 := (Below.refl w2.heap.size w2).alloc (Nat.le_refl _) (.cells #[.int .i64 fm, .bool fn, .bool ff, .int .i64 fo] 188)
    have cP3 := box_cells ((b3.block _ (heap_lt KP2.out)).trans KP2.out)
    have cQ3 := box_cells ((b3.block _ (heap_lt KQ2.out)).trans KQ2.out)
    have cR3 := box_cells (heap_new w2 (.cells #[.int .i64 fm, .bool fn, .bool ff, .int .i64 fo] 188))
    exact ⟨cP3 0, cP3 1, cQ3 0, cQ3 1, cQ3 2, cQ3 3, cQ3 4, cR3 0, cR3 1, cR3 2, cR3 3, below_drew0 (R2.out.trans (b3.mono (Nat.le_trans (by omega) R2.out.size)))⟩)
  have DP := Lib.hid (show ∀ W, ExS w w2.heap.size d ar op n nm fd la l lc fm fn ff fo W → Calls Tryz.prog 144 #[.agg #[.int .i64 d, .int .i64 ar]] W fun e W' => e = .returned (.agg #[.int .i64 d, .int .i64 ((ar + 1 : Nat) : Int)]) ∧ ExS w w2.heap.size d ar op n nm fd la l lc fm fn ff fo W' from fun W hS => (deeper_any d ar W (by omega)).mono fun e W' h => ⟨h.1, hS.step h.2⟩)
  have AL := Lib.hid (show ∀ W, ExS w w2.heap.size d ar op n nm fd la l lc fm fn ff fo W → Calls Tryz.prog 143 #[.slice la l.length lc, .func (.func 91) #[.agg #[.int .i64 d, .int .i64 ((ar + 1 : Nat) : Int)]] #[]] W fun e W' => e = .returned (.bool rl) ∧ ExS w w2.heap.size d ar op n nm fd la l lc fm fn ff fo W' from fun W hS => (HL.out W (HW.out.trans (Below.mono hS.2.2.2.2.2.2.2.2.2.2.2 HW.out.size))).mono fun e W' h => ⟨h.1, hS.step h.2⟩)
  have N1 := Lib.hid (show ∀ W, ExS w w2.heap.size d ar op n nm fd la l lc fm fn ff fo W → Calls Tryz.prog 142 #[.agg #[.int .i64 d, .int .i64 ar], .bool fn, .string nm] W fun e W' => e = .returned (.bool (nameW d fn nm)) ∧ ExS w w2.heap.size d ar op n nm fd la l lc fm fn ff fo W' from fun W hS => (nameWhere_any d ar fn nm W hnm).mono fun e W' h => ⟨h.1, hS.step h.2⟩)
  have N2 := Lib.hid (show ∀ W, ExS w w2.heap.size d ar op n nm fd la l lc fm fn ff fo W → Calls Tryz.prog 142 #[.agg #[.int .i64 d, .int .i64 ar], .bool ff, .string fd] W fun e W' => e = .returned (.bool (nameW d ff fd)) ∧ ExS w w2.heap.size d ar op n nm fd la l lc fm fn ff fo W' from fun W hS => (nameWhere_any d ar ff fd W hfd).mono fun e W' h => ⟨h.1, hS.step h.2⟩)
  clear HL HW KP KQ R0 R1 KP1 KQ1 R2 KP2 KQ2 cP2 cQ2
  generalize (w2.alloc (.cells #[.int .i64 fm, .bool fn, .bool ff, .int .i64 fo] 188)) = w3 at *
  generalize w2.heap.size = r at *
  generalize hn1 : nameW d fn nm = n1 at *
  generalize hn2 : nameW d ff fd = n2 at *
  clear hn1 hn2
  refine wp_region_held (S := fun w' => w'.cell? ⟨w.heap.size, 0, none⟩ = some (.int .i64 d) ∧ w'.cell? ⟨w.heap.size, 1, none⟩ = some (.int .i64 ar) ∧ w'.cell? ⟨w.heap.size + 1, 0, none⟩ = some (.int .i64 op) ∧ w'.cell? ⟨w.heap.size + 1, 1, none⟩ = some (.int .i64 n) ∧ w'.cell? ⟨w.heap.size + 1, 2, none⟩ = some (.string nm) ∧ w'.cell? ⟨w.heap.size + 1, 3, none⟩ = some (.string fd) ∧ w'.cell? ⟨w.heap.size + 1, 4, none⟩ = some (.slice la l.length lc) ∧ w'.cell? ⟨r, 0, none⟩ = some (.int .i64 fm) ∧ w'.cell? ⟨r, 1, none⟩ = some (.bool fn) ∧ w'.cell? ⟨r, 2, none⟩ = some (.bool ff) ∧ w'.cell? ⟨r, 3, none⟩ = some (.int .i64 fo) ∧ Since w w') (by kernel_rfl) ?_
  have hHeld := S0.out
  change (fun w' => w'.cell? ⟨w.heap.size, 0, none⟩ = some (.int .i64 d) ∧ w'.cell? ⟨w.heap.size, 1, none⟩ = some (.int .i64 ar) ∧ w'.cell? ⟨w.heap.size + 1, 0, none⟩ = some (.int .i64 op) ∧ w'.cell? ⟨w.heap.size + 1, 1, none⟩ = some (.int .i64 n) ∧ w'.cell? ⟨w.heap.size + 1, 2, none⟩ = some (.string nm) ∧ w'.cell? ⟨w.heap.size + 1, 3, none⟩ = some (.string fd) ∧ w'.cell? ⟨w.heap.size + 1, 4, none⟩ = some (.slice la l.length lc) ∧ w'.cell? ⟨r, 0, none⟩ = some (.int .i64 fm) ∧ w'.cell? ⟨r, 1, none⟩ = some (.bool fn) ∧ w'.cell? ⟨r, 2, none⟩ = some (.bool ff) ∧ w'.cell? ⟨r, 3, none⟩ = some (.int .i64 fo) ∧ Since w w') _ at hHeld
  cases ok with
  | false =>
    refine wpAnyH_take (i := 0) (oi := ⟨some 21, .move (.tmp 6), 4, "check.go:251", #[], none⟩) (v := ?v0_1) rfl (by kernel_rfl) (by kernel_rfl) (by kernel_rfl) (fun _ _ _ h => h) (Or.inl ⟨by rfl, ?hy0_1⟩) hHeld ?rest0_1
    case hy0_1 => (intro W hSW; (try dsimp only at hSW); go_simp; try with_reducible rfl)
    try simp only [Act.put, List.setIfInBounds_toArray, List.set_cons_zero, List.set_cons_succ]
    refine wpAnyH_take (i := 1) (oi := ⟨some 22, .move (.tmp 21), 4, "check.go:251", #[⟨0, .data⟩], none⟩) (v := ?v1_2) rfl (by kernel_rfl) (by kernel_rfl) (by kernel_rfl) (fun _ _ _ h => h) (Or.inl ⟨by rfl, ?hy1_2⟩) hHeld ?rest1_2
    case hy1_2 => (intro W hSW; (try dsimp only at hSW); go_simp; try with_reducible rfl)
    try simp only [Act.put, List.setIfInBounds_toArray, List.set_cons_zero, List.set_cons_succ]
    refine wpAnyH_take (i := 2) (oi := ⟨some 23, .fieldAddr 25 (.tmp 3) 1, 0, "check.go:251", #[⟨1, .guard⟩], some (1, true)⟩) (v := undef) rfl (by kernel_rfl) (by kernel_rfl) (by kernel_rfl) (fun _ _ _ h => h) (Or.inr ⟨by rfl, rfl⟩) hHeld ?_
    try simp only [Act.put, List.setIfInBounds_toArray, List.set_cons_zero, List.set_cons_succ]
    refine wpAnyH_take (i := 3) (oi := ⟨some 24, .load 2 (.tmp 23), 2, "check.go:251", #[⟨2, .data⟩, ⟨1, .guard⟩], some (1, true)⟩) (v := undef) rfl (by kernel_rfl) (by kernel_rfl) (by kernel_rfl) (fun _ _ _ h => h) (Or.inr ⟨by rfl, rfl⟩) hHeld ?_
    try simp only [Act.put, List.setIfInBounds_toArray, List.set_cons_zero, List.set_cons_succ]
    refine wpAnyH_take (i := 4) (oi := ⟨some 25, .binOp .leq 2 (.const (.int .i64 0)) (.tmp 24) 2, 4, "check.go:251", #[⟨3, .data⟩, ⟨1, .guard⟩], some (1, true)⟩) (v := undef) rfl (by kernel_rfl) (by kernel_rfl) (by kernel_rfl) (fun _ _ _ h => h) (Or.inr ⟨by rfl, rfl⟩) hHeld ?_
    try simp only [Act.put, List.setIfInBounds_toArray, List.set_cons_zero, List.set_cons_succ]
    refine wpAnyH_take (i := 5) (oi := ⟨some 26, .pick (.tmp 22) (.tmp 25) (.const (.bool false)), 4, "check.go:251", #[⟨1, .data⟩, ⟨4, .data⟩], none⟩) (v := ?v5_3) rfl (by kernel_rfl) (by kernel_rfl) (by kernel_rfl) (fun _ _ _ h => h) (Or.inl ⟨by rfl, ?hy5_3⟩) hHeld ?rest5_3
    case hy5_3 => (intro W hSW; (try dsimp only at hSW); go_simp; try with_reducible rfl)
    try simp only [Act.put, List.setIfInBounds_toArray, List.set_cons_zero, List.set_cons_succ]
    refine wpAnyH_take (i := 6) (oi := ⟨some 27, .move (.tmp 26), 4, "check.go:251", #[⟨5, .data⟩, ⟨1, .chain⟩], none⟩) (v := ?v6_4) rfl (by kernel_rfl) (by kernel_rfl) (by kernel_rfl) (fun _ _ _ h => h) (Or.inl ⟨by rfl, ?hy6_4⟩) hHeld ?rest6_4
    case hy6_4 => (intro W hSW; (try dsimp only at hSW); go_simp; try with_reducible rfl)
    try simp only [Act.put, List.setIfInBounds_toArray, List.set_cons_zero, List.set_cons_succ]
    refine wpAnyH_take (i := 7) (oi := ⟨some 28, .fieldAddr 25 (.tmp 3) 1, 0, "check.go:251", #[⟨6, .guard⟩], some (6, true)⟩) (v := undef) rfl (by kernel_rfl) (by kernel_rfl) (by kernel_rfl) (fun _ _ _ h => h) (Or.inr ⟨by rfl, rfl⟩) hHeld ?_
    try simp only [Act.put, List.setIfInBounds_toArray, List.set_cons_zero, List.set_cons_succ]
    refine wpAnyH_take (i := 8) (oi := ⟨some 29, .load 2 (.tmp 28), 2, "check.go:251", #[⟨7, .data⟩, ⟨6, .guard⟩], some (6, true)⟩) (v := undef) rfl (by kernel_rfl) (by kernel_rfl) (by kernel_rfl) (fun _ _ _ h => h) (Or.inr ⟨by rfl, rfl⟩) hHeld ?_
    try simp only [Act.put, List.setIfInBounds_toArray, List.set_cons_zero, List.set_cons_succ]
    refine wpAnyH_take (i := 9) (oi := ⟨some 30, .fieldAddr 188 (.tmp 5) 0, 0, "check.go:251", #[⟨6, .guard⟩], some (6, true)⟩) (v := undef) rfl (by kernel_rfl) (by kernel_rfl) (by kernel_rfl) (fun _ _ _ h => h) (Or.inr ⟨by rfl, rfl⟩) hHeld ?_
    try simp only [Act.put, List.setIfInBounds_toArray, List.set_cons_zero, List.set_cons_succ]
    refine wpAnyH_take (i := 10) (oi := ⟨some 31, .load 2 (.tmp 30), 2, "check.go:251", #[⟨9, .data⟩, ⟨6, .guard⟩], some (6, true)⟩) (v := undef) rfl (by kernel_rfl) (by kernel_rfl) (by kernel_rfl) (fun _ _ _ h => h) (Or.inr ⟨by rfl, rfl⟩) hHeld ?_
    try simp only [Act.put, List.setIfInBounds_toArray, List.set_cons_zero, List.set_cons_succ]
    refine wpAnyH_take (i := 11) (oi := ⟨some 32, .binOp .leq 2 (.tmp 29) (.tmp 31) 2, 4, "check.go:251", #[⟨8, .data⟩, ⟨10, .data⟩, ⟨6, .guard⟩], some (6, true)⟩) (v := undef) rfl (by kernel_rfl) (by kernel_rfl) (by kernel_rfl) (fun _ _ _ h => h) (Or.inr ⟨by rfl, rfl⟩) hHeld ?_
    try simp only [Act.put, List.setIfInBounds_toArray, List.set_cons_zero, List.set_cons_succ]
    refine wpAnyH_take (i := 12) (oi := ⟨some 33, .pick (.tmp 27) (.tmp 32) (.const (.bool false)), 4, "check.go:251", #[⟨6, .data⟩, ⟨11, .data⟩], none⟩) (v := ?v12_5) rfl (by kernel_rfl) (by kernel_rfl) (by kernel_rfl) (fun _ _ _ h => h) (Or.inl ⟨by rfl, ?hy12_5⟩) hHeld ?rest12_5
    case hy12_5 => (intro W hSW; (try dsimp only at hSW); go_simp; try with_reducible rfl)
    try simp only [Act.put, List.setIfInBounds_toArray, List.set_cons_zero, List.set_cons_succ]
    refine wpAnyH_take (i := 13) (oi := ⟨some 34, .move (.tmp 33), 4, "check.go:251", #[⟨12, .data⟩, ⟨6, .chain⟩], none⟩) (v := ?v13_6) rfl (by kernel_rfl) (by kernel_rfl) (by kernel_rfl) (fun _ _ _ h => h) (Or.inl ⟨by rfl, ?hy13_6⟩) hHeld ?rest13_6
    case hy13_6 => (intro W hSW; (try dsimp only at hSW); go_simp; try with_reducible rfl)
    try simp only [Act.put, List.setIfInBounds_toArray, List.set_cons_zero, List.set_cons_succ]
    refine wpAnyH_take (i := 14) (oi := ⟨some 35, .load 140 (.tmp 2), 140, "check.go:251", #[⟨13, .guard⟩], some (13, true)⟩) (v := undef) rfl (by kernel_rfl) (by kernel_rfl) (by kernel_rfl) (fun _ _ _ h => h) (Or.inr ⟨by rfl, rfl⟩) hHeld ?_
    try simp only [Act.put, List.setIfInBounds_toArray, List.set_cons_zero, List.set_cons_succ]
    refine wpAnyH_take (i := 15) (oi := ⟨some 36, .fieldAddr 188 (.tmp 5) 1, 0, "check.go:251", #[⟨13, .guard⟩], some (13, true)⟩) (v := undef) rfl (by kernel_rfl) (by kernel_rfl) (by kernel_rfl) (fun _ _ _ h => h) (Or.inr ⟨by rfl, rfl⟩) hHeld ?_
    try simp only [Act.put, List.setIfInBounds_toArray, List.set_cons_zero, List.set_cons_succ]
    refine wpAnyH_take (i := 16) (oi := ⟨some 37, .load 4 (.tmp 36), 4, "check.go:251", #[⟨15, .data⟩, ⟨13, .guard⟩], some (13, true)⟩) (v := undef) rfl (by kernel_rfl) (by kernel_rfl) (by kernel_rfl) (fun _ _ _ h => h) (Or.inr ⟨by rfl, rfl⟩) hHeld ?_
    try simp only [Act.put, List.setIfInBounds_toArray, List.set_cons_zero, List.set_cons_succ]
    refine wpAnyH_take (i := 17) (oi := ⟨some 38, .fieldAddr 25 (.tmp 3) 2, 0, "check.go:251", #[⟨13, .guard⟩], some (13, true)⟩) (v := undef) rfl (by kernel_rfl) (by kernel_rfl) (by kernel_rfl) (fun _ _ _ h => h) (Or.inr ⟨by rfl, rfl⟩) hHeld ?_
    try simp only [Act.put, List.setIfInBounds_toArray, List.set_cons_zero, List.set_cons_succ]
    refine wpAnyH_take (i := 18) (oi := ⟨some 39, .load 9 (.tmp 38), 9, "check.go:251", #[⟨17, .data⟩, ⟨13, .guard⟩], some (13, true)⟩) (v := undef) rfl (by kernel_rfl) (by kernel_rfl) (by kernel_rfl) (fun _ _ _ h => h) (Or.inr ⟨by rfl, rfl⟩) hHeld ?_
    try simp only [Act.put, List.setIfInBounds_toArray, List.set_cons_zero, List.set_cons_succ]
    refine wpAnyH_ready (rs := [19]) (by kernel_rfl) (by simp) ?_
    refine AllReadyH.cons (o := ⟨some 40, .call { callee := .value (.func 142), args := #[.tmp 35, .tmp 37, .tmp 39], argTypes := #[140, 4, 9] }, 4, "check.go:252", #[⟨14, .data⟩, ⟨16, .data⟩, ⟨18, .data⟩, ⟨13, .chain⟩, ⟨13, .guard⟩], some (13, true)⟩) rfl (fun K hK => ?_) AllReadyH.nil
    go_simp
    refine hK.out _ _ hHeld (fun _ => ?_)
    clear hK K
    try simp only [Act.put, List.setIfInBounds_toArray, List.set_cons_zero, List.set_cons_succ]
    refine wpAnyH_take (i := 20) (oi := ⟨some 41, .pick (.tmp 34) (.tmp 40) (.const (.bool false)), 4, "check.go:251", #[⟨13, .data⟩, ⟨19, .data⟩], none⟩) (v := ?v20_7) rfl (by kernel_rfl) (by kernel_rfl) (by kernel_rfl) (fun _ _ _ h => h) (Or.inl ⟨by rfl, ?hy20_7⟩) hHeld ?rest20_7
    case hy20_7 => (intro W hSW; (try dsimp only at hSW); go_simp; try with_reducible rfl)
    try simp only [Act.put, List.setIfInBounds_toArray, List.set_cons_zero, List.set_cons_succ]
    refine wpAnyH_take (i := 21) (oi := ⟨some 42, .move (.tmp 41), 4, "check.go:251", #[⟨20, .data⟩, ⟨19, .chain⟩], none⟩) (v := ?v21_8) rfl (by kernel_rfl) (by kernel_rfl) (by kernel_rfl) (fun _ _ _ h => h) (Or.inl ⟨by rfl, ?hy21_8⟩) hHeld ?rest21_8
    case hy21_8 => (intro W hSW; (try dsimp only at hSW); go_simp; try with_reducible rfl)
    try simp only [Act.put, List.setIfInBounds_toArray, List.set_cons_zero, List.set_cons_succ]
    refine wpAnyH_take (i := 22) (oi := ⟨some 43, .load 140 (.tmp 2), 140, "check.go:251", #[⟨21, .guard⟩], some (21, true)⟩) (v := undef) rfl (by kernel_rfl) (by kernel_rfl) (by kernel_rfl) (fun _ _ _ h => h) (Or.inr ⟨by rfl, rfl⟩) hHeld ?_
    try simp only [Act.put, List.setIfInBounds_toArray, List.set_cons_zero, List.set_cons_succ]
    refine wpAnyH_take (i := 23) (oi := ⟨some 44, .fieldAddr 188 (.tmp 5) 2, 0, "check.go:251", #[⟨21, .guard⟩], some (21, true)⟩) (v := undef) rfl (by kernel_rfl) (by kernel_rfl) (by kernel_rfl) (fun _ _ _ h => h) (Or.inr ⟨by rfl, rfl⟩) hHeld ?_
    try simp only [Act.put, List.setIfInBounds_toArray, List.set_cons_zero, List.set_cons_succ]
    refine wpAnyH_take (i := 24) (oi := ⟨some 45, .load 4 (.tmp 44), 4, "check.go:251", #[⟨23, .data⟩, ⟨21, .guard⟩], some (21, true)⟩) (v := undef) rfl (by kernel_rfl) (by kernel_rfl) (by kernel_rfl) (fun _ _ _ h => h) (Or.inr ⟨by rfl, rfl⟩) hHeld ?_
    try simp only [Act.put, List.setIfInBounds_toArray, List.set_cons_zero, List.set_cons_succ]
    refine wpAnyH_take (i := 25) (oi := ⟨some 46, .fieldAddr 25 (.tmp 3) 3, 0, "check.go:251", #[⟨21, .guard⟩], some (21, true)⟩) (v := undef) rfl (by kernel_rfl) (by kernel_rfl) (by kernel_rfl) (fun _ _ _ h => h) (Or.inr ⟨by rfl, rfl⟩) hHeld ?_
    try simp only [Act.put, List.setIfInBounds_toArray, List.set_cons_zero, List.set_cons_succ]
    refine wpAnyH_take (i := 26) (oi := ⟨some 47, .load 9 (.tmp 46), 9, "check.go:251", #[⟨25, .data⟩, ⟨21, .guard⟩], some (21, true)⟩) (v := undef) rfl (by kernel_rfl) (by kernel_rfl) (by kernel_rfl) (fun _ _ _ h => h) (Or.inr ⟨by rfl, rfl⟩) hHeld ?_
    try simp only [Act.put, List.setIfInBounds_toArray, List.set_cons_zero, List.set_cons_succ]
    refine wpAnyH_ready (rs := [27]) (by kernel_rfl) (by simp) ?_
    refine AllReadyH.cons (o := ⟨some 48, .call { callee := .value (.func 142), args := #[.tmp 43, .tmp 45, .tmp 47], argTypes := #[140, 4, 9] }, 4, "check.go:252", #[⟨22, .data⟩, ⟨24, .data⟩, ⟨26, .data⟩, ⟨21, .chain⟩, ⟨21, .guard⟩], some (21, true)⟩) rfl (fun K hK => ?_) AllReadyH.nil
    go_simp
    refine hK.out _ _ hHeld (fun _ => ?_)
    clear hK K
    try simp only [Act.put, List.setIfInBounds_toArray, List.set_cons_zero, List.set_cons_succ]
    refine wpAnyH_take (i := 28) (oi := ⟨some 49, .pick (.tmp 42) (.tmp 48) (.const (.bool false)), 4, "check.go:251", #[⟨21, .data⟩, ⟨27, .data⟩], none⟩) (v := ?v28_9) rfl (by kernel_rfl) (by kernel_rfl) (by kernel_rfl) (fun _ _ _ h => h) (Or.inl ⟨by rfl, ?hy28_9⟩) hHeld ?rest28_9
    case hy28_9 => (intro W hSW; (try dsimp only at hSW); go_simp; try with_reducible rfl)
    try simp only [Act.put, List.setIfInBounds_toArray, List.set_cons_zero, List.set_cons_succ]
    refine wpAnyH_take (i := 29) (oi := ⟨some 50, .move (.tmp 49), 4, "check.go:251", #[⟨28, .data⟩, ⟨27, .chain⟩], none⟩) (v := ?v29_10) rfl (by kernel_rfl) (by kernel_rfl) (by kernel_rfl) (fun _ _ _ h => h) (Or.inl ⟨by rfl, ?hy29_10⟩) hHeld ?rest29_10
    case hy29_10 => (intro W hSW; (try dsimp only at hSW); go_simp; try with_reducible rfl)
    try simp only [Act.put, List.setIfInBounds_toArray, List.set_cons_zero, List.set_cons_succ]
    refine wpAnyH_take (i := 30) (oi := ⟨some 51, .fieldAddr 25 (.tmp 3) 4, 0, "check.go:251", #[⟨29, .guard⟩], some (29, true)⟩) (v := undef) rfl (by kernel_rfl) (by kernel_rfl) (by kernel_rfl) (fun _ _ _ h => h) (Or.inr ⟨by rfl, rfl⟩) hHeld ?_
    try simp only [Act.put, List.setIfInBounds_toArray, List.set_cons_zero, List.set_cons_succ]
    refine wpAnyH_take (i := 31) (oi := ⟨some 52, .load 23 (.tmp 51), 23, "check.go:251", #[⟨30, .data⟩, ⟨29, .guard⟩], some (29, true)⟩) (v := undef) rfl (by kernel_rfl) (by kernel_rfl) (by kernel_rfl) (fun _ _ _ h => h) (Or.inr ⟨by rfl, rfl⟩) hHeld ?_
    try simp only [Act.put, List.setIfInBounds_toArray, List.set_cons_zero, List.set_cons_succ]
    refine wpAnyH_take (i := 32) (oi := ⟨some 53, .call { callee := .builtin .len, args := #[.tmp 52], argTypes := #[23] }, 3, "check.go:251", #[⟨31, .data⟩, ⟨29, .guard⟩], some (29, true)⟩) (v := undef) rfl (by kernel_rfl) (by kernel_rfl) (by kernel_rfl) (fun _ _ _ h => h) (Or.inr ⟨by rfl, rfl⟩) hHeld ?_
    try simp only [Act.put, List.setIfInBounds_toArray, List.set_cons_zero, List.set_cons_succ]
    refine wpAnyH_take (i := 33) (oi := ⟨some 54, .fieldAddr 188 (.tmp 5) 3, 0, "check.go:251", #[⟨29, .guard⟩], some (29, true)⟩) (v := undef) rfl (by kernel_rfl) (by kernel_rfl) (by kernel_rfl) (fun _ _ _ h => h) (Or.inr ⟨by rfl, rfl⟩) hHeld ?_
    try simp only [Act.put, List.setIfInBounds_toArray, List.set_cons_zero, List.set_cons_succ]
    refine wpAnyH_take (i := 34) (oi := ⟨some 55, .load 3 (.tmp 54), 3, "check.go:251", #[⟨33, .data⟩, ⟨29, .guard⟩], some (29, true)⟩) (v := undef) rfl (by kernel_rfl) (by kernel_rfl) (by kernel_rfl) (fun _ _ _ h => h) (Or.inr ⟨by rfl, rfl⟩) hHeld ?_
    try simp only [Act.put, List.setIfInBounds_toArray, List.set_cons_zero, List.set_cons_succ]
    refine wpAnyH_take (i := 35) (oi := ⟨some 56, .binOp .eql 3 (.tmp 53) (.tmp 55) 3, 4, "check.go:251", #[⟨32, .data⟩, ⟨34, .data⟩, ⟨29, .guard⟩], some (29, true)⟩) (v := undef) rfl (by kernel_rfl) (by kernel_rfl) (by kernel_rfl) (fun _ _ _ h => h) (Or.inr ⟨by rfl, rfl⟩) hHeld ?_
    try simp only [Act.put, List.setIfInBounds_toArray, List.set_cons_zero, List.set_cons_succ]
    refine wpAnyH_take (i := 36) (oi := ⟨some 57, .pick (.tmp 50) (.tmp 56) (.const (.bool false)), 4, "check.go:251", #[⟨29, .data⟩, ⟨35, .data⟩], none⟩) (v := ?v36_11) rfl (by kernel_rfl) (by kernel_rfl) (by kernel_rfl) (fun _ _ _ h => h) (Or.inl ⟨by rfl, ?hy36_11⟩) hHeld ?rest36_11
    case hy36_11 => (intro W hSW; (try dsimp only at hSW); go_simp; try with_reducible rfl)
    try simp only [Act.put, List.setIfInBounds_toArray, List.set_cons_zero, List.set_cons_succ]
    refine wpAnyH_take (i := 37) (oi := ⟨some 58, .move (.tmp 57), 4, "check.go:251", #[⟨36, .data⟩, ⟨29, .chain⟩], none⟩) (v := ?v37_12) rfl (by kernel_rfl) (by kernel_rfl) (by kernel_rfl) (fun _ _ _ h => h) (Or.inl ⟨by rfl, ?hy37_12⟩) hHeld ?rest37_12
    case hy37_12 => (intro W hSW; (try dsimp only at hSW); go_simp; try with_reducible rfl)
    try simp only [Act.put, List.setIfInBounds_toArray, List.set_cons_zero, List.set_cons_succ]
    refine wpAnyH_take (i := 38) (oi := ⟨some 59, .fieldAddr 25 (.tmp 3) 4, 0, "check.go:251", #[⟨37, .guard⟩], some (37, true)⟩) (v := undef) rfl (by kernel_rfl) (by kernel_rfl) (by kernel_rfl) (fun _ _ _ h => h) (Or.inr ⟨by rfl, rfl⟩) hHeld ?_
    try simp only [Act.put, List.setIfInBounds_toArray, List.set_cons_zero, List.set_cons_succ]
    refine wpAnyH_take (i := 39) (oi := ⟨some 60, .load 23 (.tmp 59), 23, "check.go:251", #[⟨38, .data⟩, ⟨37, .guard⟩], some (37, true)⟩) (v := undef) rfl (by kernel_rfl) (by kernel_rfl) (by kernel_rfl) (fun _ _ _ h => h) (Or.inr ⟨by rfl, rfl⟩) hHeld ?_
    try simp only [Act.put, List.setIfInBounds_toArray, List.set_cons_zero, List.set_cons_succ]
    refine wpAnyH_take (i := 40) (oi := ⟨some 61, .load 140 (.tmp 2), 140, "check.go:251", #[⟨37, .guard⟩], some (37, true)⟩) (v := undef) rfl (by kernel_rfl) (by kernel_rfl) (by kernel_rfl) (fun _ _ _ h => h) (Or.inr ⟨by rfl, rfl⟩) hHeld ?_
    try simp only [Act.put, List.setIfInBounds_toArray, List.set_cons_zero, List.set_cons_succ]
    refine wpAnyH_ready (rs := [41]) (by kernel_rfl) (by simp) ?_
    refine AllReadyH.cons (o := ⟨some 62, .call { callee := .value (.func 144), args := #[.tmp 61], argTypes := #[140] }, 140, "check.go:253", #[⟨40, .data⟩, ⟨37, .chain⟩, ⟨37, .guard⟩], some (37, true)⟩) rfl (fun K hK => ?_) AllReadyH.nil
    go_simp
    refine hK.out _ _ hHeld (fun _ => ?_)
    clear hK K
    try simp only [Act.put, List.setIfInBounds_toArray, List.set_cons_zero, List.set_cons_succ]
    refine wpAnyH_ready (rs := [42]) (by kernel_rfl) (by simp) ?_
    refine AllReadyH.cons (o := ⟨some 63, .makeFunc (.func 91) #[.tmp 62] #[], 40, "check.go:251", #[⟨41, .data⟩, ⟨37, .guard⟩], some (37, true)⟩) rfl (fun K hK => ?_) AllReadyH.nil
    go_simp
    refine hK.out _ _ hHeld (fun _ => ?_)
    clear hK K
    try simp only [Act.put, List.setIfInBounds_toArray, List.set_cons_zero, List.set_cons_succ]
    refine wpAnyH_ready (rs := [43]) (by kernel_rfl) (by simp) ?_
    refine AllReadyH.cons (o := ⟨some 64, .call { callee := .value (.func 143), args := #[.tmp 60, .tmp 63], argTypes := #[23, 40] }, 4, "check.go:253", #[⟨39, .data⟩, ⟨42, .data⟩, ⟨41, .chain⟩, ⟨37, .guard⟩], some (37, true)⟩) rfl (fun K hK => ?_) AllReadyH.nil
    go_simp
    refine hK.out _ _ hHeld (fun _ => ?_)
    clear hK K
    try simp only [Act.put, List.setIfInBounds_toArray, List.set_cons_zero, List.set_cons_succ]
    refine wpAnyH_take (i := 44) (oi := ⟨some 65, .pick (.tmp 58) (.tmp 64) (.const (.bool false)), 4, "check.go:251", #[⟨37, .data⟩, ⟨43, .data⟩], none⟩) (v := ?v44_13) rfl (by kernel_rfl) (by kernel_rfl) (by kernel_rfl) (fun _ _ _ h => h) (Or.inl ⟨by rfl, ?hy44_13⟩) hHeld ?rest44_13
    case hy44_13 => (intro W hSW; (try dsimp only at hSW); go_simp; try with_reducible rfl)
    try simp only [Act.put, List.setIfInBounds_toArray, List.set_cons_zero, List.set_cons_succ]
    refine wpAnyH_take (i := 45) (oi := ⟨some 4, .assign (.tmp 65), 4, "check.go:251", #[⟨44, .data⟩, ⟨43, .chain⟩, ⟨0, .phase⟩, ⟨1, .phase⟩, ⟨2, .phase⟩, ⟨3, .phase⟩, ⟨4, .phase⟩, ⟨5, .phase⟩, ⟨6, .phase⟩, ⟨7, .phase⟩, ⟨8, .phase⟩, ⟨9, .phase⟩, ⟨10, .phase⟩, ⟨11, .phase⟩, ⟨12, .phase⟩, ⟨13, .phase⟩, ⟨14, .phase⟩, ⟨15, .phase⟩, ⟨16, .phase⟩, ⟨17, .phase⟩, ⟨18, .phase⟩, ⟨19, .phase⟩, ⟨20, .phase⟩, ⟨21, .phase⟩, ⟨22, .phase⟩, ⟨23, .phase⟩, ⟨24, .phase⟩, ⟨25, .phase⟩, ⟨26, .phase⟩, ⟨27, .phase⟩, ⟨28, .phase⟩, ⟨29, .phase⟩, ⟨30, .phase⟩, ⟨31, .phase⟩, ⟨32, .phase⟩, ⟨33, .phase⟩, ⟨34, .phase⟩, ⟨35, .phase⟩, ⟨36, .phase⟩, ⟨37, .phase⟩, ⟨38, .phase⟩, ⟨39, .phase⟩, ⟨40, .phase⟩, ⟨41, .phase⟩, ⟨42, .phase⟩, ⟨43, .phase⟩, ⟨44, .phase⟩], none⟩) (v := ?v45_14) rfl (by kernel_rfl) (by kernel_rfl) (by kernel_rfl) (fun _ _ _ h => h) (Or.inl ⟨by rfl, ?hy45_14⟩) hHeld ?rest45_14
    case hy45_14 => (intro W hSW; (try dsimp only at hSW); go_simp; try with_reducible rfl)
    try simp only [Act.put, List.setIfInBounds_toArray, List.set_cons_zero, List.set_cons_succ]
    refine wpAnyH_done (by kernel_rfl) ?_ _
    have HS := Lib.hid hHeld
    clear hHeld
    go_wp2_with fail
    go_ret
    exact ⟨by rw [HO.out]; simp [*], HS.out.2.2.2.2.2.2.2.2.2.2.2⟩
  | true =>
    refine wpAnyH_take (i := 0) (oi := ⟨some 21, .move (.tmp 6), 4, "check.go:251", #[], none⟩) (v := ?v0_15) rfl (by kernel_rfl) (by kernel_rfl) (by kernel_rfl) (fun _ _ _ h => h) (Or.inl ⟨by rfl, ?hy0_15⟩) hHeld ?rest0_15
    case hy0_15 => (intro W hSW; (try dsimp only at hSW); go_simp; try with_reducible rfl)
    try simp only [Act.put, List.setIfInBounds_toArray, List.set_cons_zero, List.set_cons_succ]
    refine wpAnyH_take (i := 1) (oi := ⟨some 22, .move (.tmp 21), 4, "check.go:251", #[⟨0, .data⟩], none⟩) (v := ?v1_16) rfl (by kernel_rfl) (by kernel_rfl) (by kernel_rfl) (fun _ _ _ h => h) (Or.inl ⟨by rfl, ?hy1_16⟩) hHeld ?rest1_16
    case hy1_16 => (intro W hSW; (try dsimp only at hSW); go_simp; try with_reducible rfl)
    try simp only [Act.put, List.setIfInBounds_toArray, List.set_cons_zero, List.set_cons_succ]
    refine wpAnyH_take (i := 2) (oi := ⟨some 23, .fieldAddr 25 (.tmp 3) 1, 0, "check.go:251", #[⟨1, .guard⟩], some (1, true)⟩) (v := ?v2_17) rfl (by kernel_rfl) (by kernel_rfl) (by kernel_rfl) (fun _ _ _ h => h) (Or.inl ⟨by rfl, ?hy2_17⟩) hHeld ?rest2_17
    case hy2_17 => (intro W hSW; (try dsimp only at hSW); go_simp; try with_reducible rfl)
    try simp only [Act.put, List.setIfInBounds_toArray, List.set_cons_zero, List.set_cons_succ]
    refine wpAnyH_take (i := 3) (oi := ⟨some 24, .load 2 (.tmp 23), 2, "check.go:251", #[⟨2, .data⟩, ⟨1, .guard⟩], some (1, true)⟩) (v := ?v3_18) rfl (by kernel_rfl) (by kernel_rfl) (by kernel_rfl) (fun _ _ _ h => h) (Or.inl ⟨by rfl, ?hy3_18⟩) hHeld ?rest3_18
    case hy3_18 => (intro W hSW; (try dsimp only at hSW); go_simp; try with_reducible rfl)
    try simp only [Act.put, List.setIfInBounds_toArray, List.set_cons_zero, List.set_cons_succ]
    cases hd0 : decide ((0 : Int) ≤ n) with
    | false =>
      refine wpAnyH_take (i := 4) (oi := ⟨some 25, .binOp .leq 2 (.const (.int .i64 0)) (.tmp 24) 2, 4, "check.go:251", #[⟨3, .data⟩, ⟨1, .guard⟩], some (1, true)⟩) (v := ?v4_19) rfl (by kernel_rfl) (by kernel_rfl) (by kernel_rfl) (fun _ _ _ h => h) (Or.inl ⟨by rfl, ?hy4_19⟩) hHeld ?rest4_19
      case hy4_19 => (intro W hSW; (try dsimp only at hSW); go_simp; try with_reducible rfl)
      try simp only [Act.put, List.setIfInBounds_toArray, List.set_cons_zero, List.set_cons_succ]
      refine wpAnyH_take (i := 5) (oi := ⟨some 26, .pick (.tmp 22) (.tmp 25) (.const (.bool false)), 4, "check.go:251", #[⟨1, .data⟩, ⟨4, .data⟩], none⟩) (v := ?v5_20) rfl (by kernel_rfl) (by kernel_rfl) (by kernel_rfl) (fun _ _ _ h => h) (Or.inl ⟨by rfl, ?hy5_20⟩) hHeld ?rest5_20
      case hy5_20 => (intro W hSW; (try dsimp only at hSW); go_simp; try with_reducible rfl)
      try simp only [Act.put, List.setIfInBounds_toArray, List.set_cons_zero, List.set_cons_succ]
      refine wpAnyH_take (i := 6) (oi := ⟨some 27, .move (.tmp 26), 4, "check.go:251", #[⟨5, .data⟩, ⟨1, .chain⟩], none⟩) (v := ?v6_21) rfl (by kernel_rfl) (by kernel_rfl) (by kernel_rfl) (fun _ _ _ h => h) (Or.inl ⟨by rfl, ?hy6_21⟩) hHeld ?rest6_21
      case hy6_21 => (intro W hSW; (try dsimp only at hSW); go_simp; try with_reducible rfl)
      try simp only [Act.put, List.setIfInBounds_toArray, List.set_cons_zero, List.set_cons_succ]
      refine wpAnyH_take (i := 7) (oi := ⟨some 28, .fieldAddr 25 (.tmp 3) 1, 0, "check.go:251", #[⟨6, .guard⟩], some (6, true)⟩) (v := undef) rfl (by kernel_rfl) (by kernel_rfl) (by kernel_rfl) (fun _ _ _ h => h) (Or.inr ⟨by rfl, rfl⟩) hHeld ?_
      try simp only [Act.put, List.setIfInBounds_toArray, List.set_cons_zero, List.set_cons_succ]
      refine wpAnyH_take (i := 8) (oi := ⟨some 29, .load 2 (.tmp 28), 2, "check.go:251", #[⟨7, .data⟩, ⟨6, .guard⟩], some (6, true)⟩) (v := undef) rfl (by kernel_rfl) (by kernel_rfl) (by kernel_rfl) (fun _ _ _ h => h) (Or.inr ⟨by rfl, rfl⟩) hHeld ?_
      try simp only [Act.put, List.setIfInBounds_toArray, List.set_cons_zero, List.set_cons_succ]
      refine wpAnyH_take (i := 9) (oi := ⟨some 30, .fieldAddr 188 (.tmp 5) 0, 0, "check.go:251", #[⟨6, .guard⟩], some (6, true)⟩) (v := undef) rfl (by kernel_rfl) (by kernel_rfl) (by kernel_rfl) (fun _ _ _ h => h) (Or.inr ⟨by rfl, rfl⟩) hHeld ?_
      try simp only [Act.put, List.setIfInBounds_toArray, List.set_cons_zero, List.set_cons_succ]
      refine wpAnyH_take (i := 10) (oi := ⟨some 31, .load 2 (.tmp 30), 2, "check.go:251", #[⟨9, .data⟩, ⟨6, .guard⟩], some (6, true)⟩) (v := undef) rfl (by kernel_rfl) (by kernel_rfl) (by kernel_rfl) (fun _ _ _ h => h) (Or.inr ⟨by rfl, rfl⟩) hHeld ?_
      try simp only [Act.put, List.setIfInBounds_toArray, List.set_cons_zero, List.set_cons_succ]
      refine wpAnyH_take (i := 11) (oi := ⟨some 32, .binOp .leq 2 (.tmp 29) (.tmp 31) 2, 4, "check.go:251", #[⟨8, .data⟩, ⟨10, .data⟩, ⟨6, .guard⟩], some (6, true)⟩) (v := undef) rfl (by kernel_rfl) (by kernel_rfl) (by kernel_rfl) (fun _ _ _ h => h) (Or.inr ⟨by rfl, rfl⟩) hHeld ?_
      try simp only [Act.put, List.setIfInBounds_toArray, List.set_cons_zero, List.set_cons_succ]
      refine wpAnyH_take (i := 12) (oi := ⟨some 33, .pick (.tmp 27) (.tmp 32) (.const (.bool false)), 4, "check.go:251", #[⟨6, .data⟩, ⟨11, .data⟩], none⟩) (v := ?v12_22) rfl (by kernel_rfl) (by kernel_rfl) (by kernel_rfl) (fun _ _ _ h => h) (Or.inl ⟨by rfl, ?hy12_22⟩) hHeld ?rest12_22
      case hy12_22 => (intro W hSW; (try dsimp only at hSW); go_simp; try with_reducible rfl)
      try simp only [Act.put, List.setIfInBounds_toArray, List.set_cons_zero, List.set_cons_succ]
      refine wpAnyH_take (i := 13) (oi := ⟨some 34, .move (.tmp 33), 4, "check.go:251", #[⟨12, .data⟩, ⟨6, .chain⟩], none⟩) (v := ?v13_23) rfl (by kernel_rfl) (by kernel_rfl) (by kernel_rfl) (fun _ _ _ h => h) (Or.inl ⟨by rfl, ?hy13_23⟩) hHeld ?rest13_23
      case hy13_23 => (intro W hSW; (try dsimp only at hSW); go_simp; try with_reducible rfl)
      try simp only [Act.put, List.setIfInBounds_toArray, List.set_cons_zero, List.set_cons_succ]
      refine wpAnyH_take (i := 14) (oi := ⟨some 35, .load 140 (.tmp 2), 140, "check.go:251", #[⟨13, .guard⟩], some (13, true)⟩) (v := undef) rfl (by kernel_rfl) (by kernel_rfl) (by kernel_rfl) (fun _ _ _ h => h) (Or.inr ⟨by rfl, rfl⟩) hHeld ?_
      try simp only [Act.put, List.setIfInBounds_toArray, List.set_cons_zero, List.set_cons_succ]
      refine wpAnyH_take (i := 15) (oi := ⟨some 36, .fieldAddr 188 (.tmp 5) 1, 0, "check.go:251", #[⟨13, .guard⟩], some (13, true)⟩) (v := undef) rfl (by kernel_rfl) (by kernel_rfl) (by kernel_rfl) (fun _ _ _ h => h) (Or.inr ⟨by rfl, rfl⟩) hHeld ?_
      try simp only [Act.put, List.setIfInBounds_toArray, List.set_cons_zero, List.set_cons_succ]
      refine wpAnyH_take (i := 16) (oi := ⟨some 37, .load 4 (.tmp 36), 4, "check.go:251", #[⟨15, .data⟩, ⟨13, .guard⟩], some (13, true)⟩) (v := undef) rfl (by kernel_rfl) (by kernel_rfl) (by kernel_rfl) (fun _ _ _ h => h) (Or.inr ⟨by rfl, rfl⟩) hHeld ?_
      try simp only [Act.put, List.setIfInBounds_toArray, List.set_cons_zero, List.set_cons_succ]
      refine wpAnyH_take (i := 17) (oi := ⟨some 38, .fieldAddr 25 (.tmp 3) 2, 0, "check.go:251", #[⟨13, .guard⟩], some (13, true)⟩) (v := undef) rfl (by kernel_rfl) (by kernel_rfl) (by kernel_rfl) (fun _ _ _ h => h) (Or.inr ⟨by rfl, rfl⟩) hHeld ?_
      try simp only [Act.put, List.setIfInBounds_toArray, List.set_cons_zero, List.set_cons_succ]
      refine wpAnyH_take (i := 18) (oi := ⟨some 39, .load 9 (.tmp 38), 9, "check.go:251", #[⟨17, .data⟩, ⟨13, .guard⟩], some (13, true)⟩) (v := undef) rfl (by kernel_rfl) (by kernel_rfl) (by kernel_rfl) (fun _ _ _ h => h) (Or.inr ⟨by rfl, rfl⟩) hHeld ?_
      try simp only [Act.put, List.setIfInBounds_toArray, List.set_cons_zero, List.set_cons_succ]
      refine wpAnyH_ready (rs := [19]) (by kernel_rfl) (by simp) ?_
      refine AllReadyH.cons (o := ⟨some 40, .call { callee := .value (.func 142), args := #[.tmp 35, .tmp 37, .tmp 39], argTypes := #[140, 4, 9] }, 4, "check.go:252", #[⟨14, .data⟩, ⟨16, .data⟩, ⟨18, .data⟩, ⟨13, .chain⟩, ⟨13, .guard⟩], some (13, true)⟩) rfl (fun K hK => ?_) AllReadyH.nil
      go_simp
      refine hK.out _ _ hHeld (fun _ => ?_)
      clear hK K
      try simp only [Act.put, List.setIfInBounds_toArray, List.set_cons_zero, List.set_cons_succ]
      refine wpAnyH_take (i := 20) (oi := ⟨some 41, .pick (.tmp 34) (.tmp 40) (.const (.bool false)), 4, "check.go:251", #[⟨13, .data⟩, ⟨19, .data⟩], none⟩) (v := ?v20_24) rfl (by kernel_rfl) (by kernel_rfl) (by kernel_rfl) (fun _ _ _ h => h) (Or.inl ⟨by rfl, ?hy20_24⟩) hHeld ?rest20_24
      case hy20_24 => (intro W hSW; (try dsimp only at hSW); go_simp; try with_reducible rfl)
      try simp only [Act.put, List.setIfInBounds_toArray, List.set_cons_zero, List.set_cons_succ]
      refine wpAnyH_take (i := 21) (oi := ⟨some 42, .move (.tmp 41), 4, "check.go:251", #[⟨20, .data⟩, ⟨19, .chain⟩], none⟩) (v := ?v21_25) rfl (by kernel_rfl) (by kernel_rfl) (by kernel_rfl) (fun _ _ _ h => h) (Or.inl ⟨by rfl, ?hy21_25⟩) hHeld ?rest21_25
      case hy21_25 => (intro W hSW; (try dsimp only at hSW); go_simp; try with_reducible rfl)
      try simp only [Act.put, List.setIfInBounds_toArray, List.set_cons_zero, List.set_cons_succ]
      refine wpAnyH_take (i := 22) (oi := ⟨some 43, .load 140 (.tmp 2), 140, "check.go:251", #[⟨21, .guard⟩], some (21, true)⟩) (v := undef) rfl (by kernel_rfl) (by kernel_rfl) (by kernel_rfl) (fun _ _ _ h => h) (Or.inr ⟨by rfl, rfl⟩) hHeld ?_
      try simp only [Act.put, List.setIfInBounds_toArray, List.set_cons_zero, List.set_cons_succ]
      refine wpAnyH_take (i := 23) (oi := ⟨some 44, .fieldAddr 188 (.tmp 5) 2, 0, "check.go:251", #[⟨21, .guard⟩], some (21, true)⟩) (v := undef) rfl (by kernel_rfl) (by kernel_rfl) (by kernel_rfl) (fun _ _ _ h => h) (Or.inr ⟨by rfl, rfl⟩) hHeld ?_
      try simp only [Act.put, List.setIfInBounds_toArray, List.set_cons_zero, List.set_cons_succ]
      refine wpAnyH_take (i := 24) (oi := ⟨some 45, .load 4 (.tmp 44), 4, "check.go:251", #[⟨23, .data⟩, ⟨21, .guard⟩], some (21, true)⟩) (v := undef) rfl (by kernel_rfl) (by kernel_rfl) (by kernel_rfl) (fun _ _ _ h => h) (Or.inr ⟨by rfl, rfl⟩) hHeld ?_
      try simp only [Act.put, List.setIfInBounds_toArray, List.set_cons_zero, List.set_cons_succ]
      refine wpAnyH_take (i := 25) (oi := ⟨some 46, .fieldAddr 25 (.tmp 3) 3, 0, "check.go:251", #[⟨21, .guard⟩], some (21, true)⟩) (v := undef) rfl (by kernel_rfl) (by kernel_rfl) (by kernel_rfl) (fun _ _ _ h => h) (Or.inr ⟨by rfl, rfl⟩) hHeld ?_
      try simp only [Act.put, List.setIfInBounds_toArray, List.set_cons_zero, List.set_cons_succ]
      refine wpAnyH_take (i := 26) (oi := ⟨some 47, .load 9 (.tmp 46), 9, "check.go:251", #[⟨25, .data⟩, ⟨21, .guard⟩], some (21, true)⟩) (v := undef) rfl (by kernel_rfl) (by kernel_rfl) (by kernel_rfl) (fun _ _ _ h => h) (Or.inr ⟨by rfl, rfl⟩) hHeld ?_
      try simp only [Act.put, List.setIfInBounds_toArray, List.set_cons_zero, List.set_cons_succ]
      refine wpAnyH_ready (rs := [27]) (by kernel_rfl) (by simp) ?_
      refine AllReadyH.cons (o := ⟨some 48, .call { callee := .value (.func 142), args := #[.tmp 43, .tmp 45, .tmp 47], argTypes := #[140, 4, 9] }, 4, "check.go:252", #[⟨22, .data⟩, ⟨24, .data⟩, ⟨26, .data⟩, ⟨21, .chain⟩, ⟨21, .guard⟩], some (21, true)⟩) rfl (fun K hK => ?_) AllReadyH.nil
      go_simp
      refine hK.out _ _ hHeld (fun _ => ?_)
      clear hK K
      try simp only [Act.put, List.setIfInBounds_toArray, List.set_cons_zero, List.set_cons_succ]
      refine wpAnyH_take (i := 28) (oi := ⟨some 49, .pick (.tmp 42) (.tmp 48) (.const (.bool false)), 4, "check.go:251", #[⟨21, .data⟩, ⟨27, .data⟩], none⟩) (v := ?v28_26) rfl (by kernel_rfl) (by kernel_rfl) (by kernel_rfl) (fun _ _ _ h => h) (Or.inl ⟨by rfl, ?hy28_26⟩) hHeld ?rest28_26
      case hy28_26 => (intro W hSW; (try dsimp only at hSW); go_simp; try with_reducible rfl)
      try simp only [Act.put, List.setIfInBounds_toArray, List.set_cons_zero, List.set_cons_succ]
      refine wpAnyH_take (i := 29) (oi := ⟨some 50, .move (.tmp 49), 4, "check.go:251", #[⟨28, .data⟩, ⟨27, .chain⟩], none⟩) (v := ?v29_27) rfl (by kernel_rfl) (by kernel_rfl) (by kernel_rfl) (fun _ _ _ h => h) (Or.inl ⟨by rfl, ?hy29_27⟩) hHeld ?rest29_27
      case hy29_27 => (intro W hSW; (try dsimp only at hSW); go_simp; try with_reducible rfl)
      try simp only [Act.put, List.setIfInBounds_toArray, List.set_cons_zero, List.set_cons_succ]
      refine wpAnyH_take (i := 30) (oi := ⟨some 51, .fieldAddr 25 (.tmp 3) 4, 0, "check.go:251", #[⟨29, .guard⟩], some (29, true)⟩) (v := undef) rfl (by kernel_rfl) (by kernel_rfl) (by kernel_rfl) (fun _ _ _ h => h) (Or.inr ⟨by rfl, rfl⟩) hHeld ?_
      try simp only [Act.put, List.setIfInBounds_toArray, List.set_cons_zero, List.set_cons_succ]
      refine wpAnyH_take (i := 31) (oi := ⟨some 52, .load 23 (.tmp 51), 23, "check.go:251", #[⟨30, .data⟩, ⟨29, .guard⟩], some (29, true)⟩) (v := undef) rfl (by kernel_rfl) (by kernel_rfl) (by kernel_rfl) (fun _ _ _ h => h) (Or.inr ⟨by rfl, rfl⟩) hHeld ?_
      try simp only [Act.put, List.setIfInBounds_toArray, List.set_cons_zero, List.set_cons_succ]
      refine wpAnyH_take (i := 32) (oi := ⟨some 53, .call { callee := .builtin .len, args := #[.tmp 52], argTypes := #[23] }, 3, "check.go:251", #[⟨31, .data⟩, ⟨29, .guard⟩], some (29, true)⟩) (v := undef) rfl (by kernel_rfl) (by kernel_rfl) (by kernel_rfl) (fun _ _ _ h => h) (Or.inr ⟨by rfl, rfl⟩) hHeld ?_
      try simp only [Act.put, List.setIfInBounds_toArray, List.set_cons_zero, List.set_cons_succ]
      refine wpAnyH_take (i := 33) (oi := ⟨some 54, .fieldAddr 188 (.tmp 5) 3, 0, "check.go:251", #[⟨29, .guard⟩], some (29, true)⟩) (v := undef) rfl (by kernel_rfl) (by kernel_rfl) (by kernel_rfl) (fun _ _ _ h => h) (Or.inr ⟨by rfl, rfl⟩) hHeld ?_
      try simp only [Act.put, List.setIfInBounds_toArray, List.set_cons_zero, List.set_cons_succ]
      refine wpAnyH_take (i := 34) (oi := ⟨some 55, .load 3 (.tmp 54), 3, "check.go:251", #[⟨33, .data⟩, ⟨29, .guard⟩], some (29, true)⟩) (v := undef) rfl (by kernel_rfl) (by kernel_rfl) (by kernel_rfl) (fun _ _ _ h => h) (Or.inr ⟨by rfl, rfl⟩) hHeld ?_
      try simp only [Act.put, List.setIfInBounds_toArray, List.set_cons_zero, List.set_cons_succ]
      refine wpAnyH_take (i := 35) (oi := ⟨some 56, .binOp .eql 3 (.tmp 53) (.tmp 55) 3, 4, "check.go:251", #[⟨32, .data⟩, ⟨34, .data⟩, ⟨29, .guard⟩], some (29, true)⟩) (v := undef) rfl (by kernel_rfl) (by kernel_rfl) (by kernel_rfl) (fun _ _ _ h => h) (Or.inr ⟨by rfl, rfl⟩) hHeld ?_
      try simp only [Act.put, List.setIfInBounds_toArray, List.set_cons_zero, List.set_cons_succ]
      refine wpAnyH_take (i := 36) (oi := ⟨some 57, .pick (.tmp 50) (.tmp 56) (.const (.bool false)), 4, "check.go:251", #[⟨29, .data⟩, ⟨35, .data⟩], none⟩) (v := ?v36_28) rfl (by kernel_rfl) (by kernel_rfl) (by kernel_rfl) (fun _ _ _ h => h) (Or.inl ⟨by rfl, ?hy36_28⟩) hHeld ?rest36_28
      case hy36_28 => (intro W hSW; (try dsimp only at hSW); go_simp; try with_reducible rfl)
      try simp only [Act.put, List.setIfInBounds_toArray, List.set_cons_zero, List.set_cons_succ]
      refine wpAnyH_take (i := 37) (oi := ⟨some 58, .move (.tmp 57), 4, "check.go:251", #[⟨36, .data⟩, ⟨29, .chain⟩], none⟩) (v := ?v37_29) rfl (by kernel_rfl) (by kernel_rfl) (by kernel_rfl) (fun _ _ _ h => h) (Or.inl ⟨by rfl, ?hy37_29⟩) hHeld ?rest37_29
      case hy37_29 => (intro W hSW; (try dsimp only at hSW); go_simp; try with_reducible rfl)
      try simp only [Act.put, List.setIfInBounds_toArray, List.set_cons_zero, List.set_cons_succ]
      refine wpAnyH_take (i := 38) (oi := ⟨some 59, .fieldAddr 25 (.tmp 3) 4, 0, "check.go:251", #[⟨37, .guard⟩], some (37, true)⟩) (v := undef) rfl (by kernel_rfl) (by kernel_rfl) (by kernel_rfl) (fun _ _ _ h => h) (Or.inr ⟨by rfl, rfl⟩) hHeld ?_
      try simp only [Act.put, List.setIfInBounds_toArray, List.set_cons_zero, List.set_cons_succ]
      refine wpAnyH_take (i := 39) (oi := ⟨some 60, .load 23 (.tmp 59), 23, "check.go:251", #[⟨38, .data⟩, ⟨37, .guard⟩], some (37, true)⟩) (v := undef) rfl (by kernel_rfl) (by kernel_rfl) (by kernel_rfl) (fun _ _ _ h => h) (Or.inr ⟨by rfl, rfl⟩) hHeld ?_
      try simp only [Act.put, List.setIfInBounds_toArray, List.set_cons_zero, List.set_cons_succ]
      refine wpAnyH_take (i := 40) (oi := ⟨some 61, .load 140 (.tmp 2), 140, "check.go:251", #[⟨37, .guard⟩], some (37, true)⟩) (v := undef) rfl (by kernel_rfl) (by kernel_rfl) (by kernel_rfl) (fun _ _ _ h => h) (Or.inr ⟨by rfl, rfl⟩) hHeld ?_
      try simp only [Act.put, List.setIfInBounds_toArray, List.set_cons_zero, List.set_cons_succ]
      refine wpAnyH_ready (rs := [41]) (by kernel_rfl) (by simp) ?_
      refine AllReadyH.cons (o := ⟨some 62, .call { callee := .value (.func 144), args := #[.tmp 61], argTypes := #[140] }, 140, "check.go:253", #[⟨40, .data⟩, ⟨37, .chain⟩, ⟨37, .guard⟩], some (37, true)⟩) rfl (fun K hK => ?_) AllReadyH.nil
      go_simp
      refine hK.out _ _ hHeld (fun _ => ?_)
      clear hK K
      try simp only [Act.put, List.setIfInBounds_toArray, List.set_cons_zero, List.set_cons_succ]
      refine wpAnyH_ready (rs := [42]) (by kernel_rfl) (by simp) ?_
      refine AllReadyH.cons (o := ⟨some 63, .makeFunc (.func 91) #[.tmp 62] #[], 40, "check.go:251", #[⟨41, .data⟩, ⟨37, .guard⟩], some (37, true)⟩) rfl (fun K hK => ?_) AllReadyH.nil
      go_simp
      refine hK.out _ _ hHeld (fun _ => ?_)
      clear hK K
      try simp only [Act.put, List.setIfInBounds_toArray, List.set_cons_zero, List.set_cons_succ]
      refine wpAnyH_ready (rs := [43]) (by kernel_rfl) (by simp) ?_
      refine AllReadyH.cons (o := ⟨some 64, .call { callee := .value (.func 143), args := #[.tmp 60, .tmp 63], argTypes := #[23, 40] }, 4, "check.go:253", #[⟨39, .data⟩, ⟨42, .data⟩, ⟨41, .chain⟩, ⟨37, .guard⟩], some (37, true)⟩) rfl (fun K hK => ?_) AllReadyH.nil
      go_simp
      refine hK.out _ _ hHeld (fun _ => ?_)
      clear hK K
      try simp only [Act.put, List.setIfInBounds_toArray, List.set_cons_zero, List.set_cons_succ]
      refine wpAnyH_take (i := 44) (oi := ⟨some 65, .pick (.tmp 58) (.tmp 64) (.const (.bool false)), 4, "check.go:251", #[⟨37, .data⟩, ⟨43, .data⟩], none⟩) (v := ?v44_30) rfl (by kernel_rfl) (by kernel_rfl) (by kernel_rfl) (fun _ _ _ h => h) (Or.inl ⟨by rfl, ?hy44_30⟩) hHeld ?rest44_30
      case hy44_30 => (intro W hSW; (try dsimp only at hSW); go_simp; try with_reducible rfl)
      try simp only [Act.put, List.setIfInBounds_toArray, List.set_cons_zero, List.set_cons_succ]
      refine wpAnyH_take (i := 45) (oi := ⟨some 4, .assign (.tmp 65), 4, "check.go:251", #[⟨44, .data⟩, ⟨43, .chain⟩, ⟨0, .phase⟩, ⟨1, .phase⟩, ⟨2, .phase⟩, ⟨3, .phase⟩, ⟨4, .phase⟩, ⟨5, .phase⟩, ⟨6, .phase⟩, ⟨7, .phase⟩, ⟨8, .phase⟩, ⟨9, .phase⟩, ⟨10, .phase⟩, ⟨11, .phase⟩, ⟨12, .phase⟩, ⟨13, .phase⟩, ⟨14, .phase⟩, ⟨15, .phase⟩, ⟨16, .phase⟩, ⟨17, .phase⟩, ⟨18, .phase⟩, ⟨19, .phase⟩, ⟨20, .phase⟩, ⟨21, .phase⟩, ⟨22, .phase⟩, ⟨23, .phase⟩, ⟨24, .phase⟩, ⟨25, .phase⟩, ⟨26, .phase⟩, ⟨27, .phase⟩, ⟨28, .phase⟩, ⟨29, .phase⟩, ⟨30, .phase⟩, ⟨31, .phase⟩, ⟨32, .phase⟩, ⟨33, .phase⟩, ⟨34, .phase⟩, ⟨35, .phase⟩, ⟨36, .phase⟩, ⟨37, .phase⟩, ⟨38, .phase⟩, ⟨39, .phase⟩, ⟨40, .phase⟩, ⟨41, .phase⟩, ⟨42, .phase⟩, ⟨43, .phase⟩, ⟨44, .phase⟩], none⟩) (v := ?v45_31) rfl (by kernel_rfl) (by kernel_rfl) (by kernel_rfl) (fun _ _ _ h => h) (Or.inl ⟨by rfl, ?hy45_31⟩) hHeld ?rest45_31
      case hy45_31 => (intro W hSW; (try dsimp only at hSW); go_simp; try with_reducible rfl)
      try simp only [Act.put, List.setIfInBounds_toArray, List.set_cons_zero, List.set_cons_succ]
      refine wpAnyH_done (by kernel_rfl) ?_ _
      have HS := Lib.hid hHeld
      clear hHeld
      go_wp2_with fail
      go_ret
      exact ⟨by rw [HO.out]; simp [*], HS.out.2.2.2.2.2.2.2.2.2.2.2⟩
    | true =>
      refine wpAnyH_take (i := 4) (oi := ⟨some 25, .binOp .leq 2 (.const (.int .i64 0)) (.tmp 24) 2, 4, "check.go:251", #[⟨3, .data⟩, ⟨1, .guard⟩], some (1, true)⟩) (v := ?v4_32) rfl (by kernel_rfl) (by kernel_rfl) (by kernel_rfl) (fun _ _ _ h => h) (Or.inl ⟨by rfl, ?hy4_32⟩) hHeld ?rest4_32
      case hy4_32 => (intro W hSW; (try dsimp only at hSW); go_simp; try with_reducible rfl)
      try simp only [Act.put, List.setIfInBounds_toArray, List.set_cons_zero, List.set_cons_succ]
      refine wpAnyH_take (i := 5) (oi := ⟨some 26, .pick (.tmp 22) (.tmp 25) (.const (.bool false)), 4, "check.go:251", #[⟨1, .data⟩, ⟨4, .data⟩], none⟩) (v := ?v5_33) rfl (by kernel_rfl) (by kernel_rfl) (by kernel_rfl) (fun _ _ _ h => h) (Or.inl ⟨by rfl, ?hy5_33⟩) hHeld ?rest5_33
      case hy5_33 => (intro W hSW; (try dsimp only at hSW); go_simp; try with_reducible rfl)
      try simp only [Act.put, List.setIfInBounds_toArray, List.set_cons_zero, List.set_cons_succ]
      refine wpAnyH_take (i := 6) (oi := ⟨some 27, .move (.tmp 26), 4, "check.go:251", #[⟨5, .data⟩, ⟨1, .chain⟩], none⟩) (v := ?v6_34) rfl (by kernel_rfl) (by kernel_rfl) (by kernel_rfl) (fun _ _ _ h => h) (Or.inl ⟨by rfl, ?hy6_34⟩) hHeld ?rest6_34
      case hy6_34 => (intro W hSW; (try dsimp only at hSW); go_simp; try with_reducible rfl)
      try simp only [Act.put, List.setIfInBounds_toArray, List.set_cons_zero, List.set_cons_succ]
      refine wpAnyH_take (i := 7) (oi := ⟨some 28, .fieldAddr 25 (.tmp 3) 1, 0, "check.go:251", #[⟨6, .guard⟩], some (6, true)⟩) (v := ?v7_35) rfl (by kernel_rfl) (by kernel_rfl) (by kernel_rfl) (fun _ _ _ h => h) (Or.inl ⟨by rfl, ?hy7_35⟩) hHeld ?rest7_35
      case hy7_35 => (intro W hSW; (try dsimp only at hSW); go_simp; try with_reducible rfl)
      try simp only [Act.put, List.setIfInBounds_toArray, List.set_cons_zero, List.set_cons_succ]
      refine wpAnyH_take (i := 8) (oi := ⟨some 29, .load 2 (.tmp 28), 2, "check.go:251", #[⟨7, .data⟩, ⟨6, .guard⟩], some (6, true)⟩) (v := ?v8_36) rfl (by kernel_rfl) (by kernel_rfl) (by kernel_rfl) (fun _ _ _ h => h) (Or.inl ⟨by rfl, ?hy8_36⟩) hHeld ?rest8_36
      case hy8_36 => (intro W hSW; (try dsimp only at hSW); go_simp; try with_reducible rfl)
      try simp only [Act.put, List.setIfInBounds_toArray, List.set_cons_zero, List.set_cons_succ]
      refine wpAnyH_take (i := 9) (oi := ⟨some 30, .fieldAddr 188 (.tmp 5) 0, 0, "check.go:251", #[⟨6, .guard⟩], some (6, true)⟩) (v := ?v9_37) rfl (by kernel_rfl) (by kernel_rfl) (by kernel_rfl) (fun _ _ _ h => h) (Or.inl ⟨by rfl, ?hy9_37⟩) hHeld ?rest9_37
      case hy9_37 => (intro W hSW; (try dsimp only at hSW); go_simp; try with_reducible rfl)
      try simp only [Act.put, List.setIfInBounds_toArray, List.set_cons_zero, List.set_cons_succ]
      refine wpAnyH_take (i := 10) (oi := ⟨some 31, .load 2 (.tmp 30), 2, "check.go:251", #[⟨9, .data⟩, ⟨6, .guard⟩], some (6, true)⟩) (v := ?v10_38) rfl (by kernel_rfl) (by kernel_rfl) (by kernel_rfl) (fun _ _ _ h => h) (Or.inl ⟨by rfl, ?hy10_38⟩) hHeld ?rest10_38
      case hy10_38 => (intro W hSW; (try dsimp only at hSW); go_simp; try with_reducible rfl)
      try simp only [Act.put, List.setIfInBounds_toArray, List.set_cons_zero, List.set_cons_succ]
      cases hd1 : decide (n ≤ fm) with
      | false =>
        refine wpAnyH_take (i := 11) (oi := ⟨some 32, .binOp .leq 2 (.tmp 29) (.tmp 31) 2, 4, "check.go:251", #[⟨8, .data⟩, ⟨10, .data⟩, ⟨6, .guard⟩], some (6, true)⟩) (v := ?v11_39) rfl (by kernel_rfl) (by kernel_rfl) (by kernel_rfl) (fun _ _ _ h => h) (Or.inl ⟨by rfl, ?hy11_39⟩) hHeld ?rest11_39
        case hy11_39 => (intro W hSW; (try dsimp only at hSW); go_simp; try with_reducible rfl)
        try simp only [Act.put, List.setIfInBounds_toArray, List.set_cons_zero, List.set_cons_succ]
        refine wpAnyH_take (i := 12) (oi := ⟨some 33, .pick (.tmp 27) (.tmp 32) (.const (.bool false)), 4, "check.go:251", #[⟨6, .data⟩, ⟨11, .data⟩], none⟩) (v := ?v12_40) rfl (by kernel_rfl) (by kernel_rfl) (by kernel_rfl) (fun _ _ _ h => h) (Or.inl ⟨by rfl, ?hy12_40⟩) hHeld ?rest12_40
        case hy12_40 => (intro W hSW; (try dsimp only at hSW); go_simp; try with_reducible rfl)
        try simp only [Act.put, List.setIfInBounds_toArray, List.set_cons_zero, List.set_cons_succ]
        refine wpAnyH_take (i := 13) (oi := ⟨some 34, .move (.tmp 33), 4, "check.go:251", #[⟨12, .data⟩, ⟨6, .chain⟩], none⟩) (v := ?v13_41) rfl (by kernel_rfl) (by kernel_rfl) (by kernel_rfl) (fun _ _ _ h => h) (Or.inl ⟨by rfl, ?hy13_41⟩) hHeld ?rest13_41
        case hy13_41 => (intro W hSW; (try dsimp only at hSW); go_simp; try with_reducible rfl)
        try simp only [Act.put, List.setIfInBounds_toArray, List.set_cons_zero, List.set_cons_succ]
        refine wpAnyH_take (i := 14) (oi := ⟨some 35, .load 140 (.tmp 2), 140, "check.go:251", #[⟨13, .guard⟩], some (13, true)⟩) (v := undef) rfl (by kernel_rfl) (by kernel_rfl) (by kernel_rfl) (fun _ _ _ h => h) (Or.inr ⟨by rfl, rfl⟩) hHeld ?_
        try simp only [Act.put, List.setIfInBounds_toArray, List.set_cons_zero, List.set_cons_succ]
        refine wpAnyH_take (i := 15) (oi := ⟨some 36, .fieldAddr 188 (.tmp 5) 1, 0, "check.go:251", #[⟨13, .guard⟩], some (13, true)⟩) (v := undef) rfl (by kernel_rfl) (by kernel_rfl) (by kernel_rfl) (fun _ _ _ h => h) (Or.inr ⟨by rfl, rfl⟩) hHeld ?_
        try simp only [Act.put, List.setIfInBounds_toArray, List.set_cons_zero, List.set_cons_succ]
        refine wpAnyH_take (i := 16) (oi := ⟨some 37, .load 4 (.tmp 36), 4, "check.go:251", #[⟨15, .data⟩, ⟨13, .guard⟩], some (13, true)⟩) (v := undef) rfl (by kernel_rfl) (by kernel_rfl) (by kernel_rfl) (fun _ _ _ h => h) (Or.inr ⟨by rfl, rfl⟩) hHeld ?_
        try simp only [Act.put, List.setIfInBounds_toArray, List.set_cons_zero, List.set_cons_succ]
        refine wpAnyH_take (i := 17) (oi := ⟨some 38, .fieldAddr 25 (.tmp 3) 2, 0, "check.go:251", #[⟨13, .guard⟩], some (13, true)⟩) (v := undef) rfl (by kernel_rfl) (by kernel_rfl) (by kernel_rfl) (fun _ _ _ h => h) (Or.inr ⟨by rfl, rfl⟩) hHeld ?_
        try simp only [Act.put, List.setIfInBounds_toArray, List.set_cons_zero, List.set_cons_succ]
        refine wpAnyH_take (i := 18) (oi := ⟨some 39, .load 9 (.tmp 38), 9, "check.go:251", #[⟨17, .data⟩, ⟨13, .guard⟩], some (13, true)⟩) (v := undef) rfl (by kernel_rfl) (by kernel_rfl) (by kernel_rfl) (fun _ _ _ h => h) (Or.inr ⟨by rfl, rfl⟩) hHeld ?_
        try simp only [Act.put, List.setIfInBounds_toArray, List.set_cons_zero, List.set_cons_succ]
        refine wpAnyH_ready (rs := [19]) (by kernel_rfl) (by simp) ?_
        refine AllReadyH.cons (o := ⟨some 40, .call { callee := .value (.func 142), args := #[.tmp 35, .tmp 37, .tmp 39], argTypes := #[140, 4, 9] }, 4, "check.go:252", #[⟨14, .data⟩, ⟨16, .data⟩, ⟨18, .data⟩, ⟨13, .chain⟩, ⟨13, .guard⟩], some (13, true)⟩) rfl (fun K hK => ?_) AllReadyH.nil
        go_simp
        refine hK.out _ _ hHeld (fun _ => ?_)
        clear hK K
        try simp only [Act.put, List.setIfInBounds_toArray, List.set_cons_zero, List.set_cons_succ]
        refine wpAnyH_take (i := 20) (oi := ⟨some 41, .pick (.tmp 34) (.tmp 40) (.const (.bool false)), 4, "check.go:251", #[⟨13, .data⟩, ⟨19, .data⟩], none⟩) (v := ?v20_42) rfl (by kernel_rfl) (by kernel_rfl) (by kernel_rfl) (fun _ _ _ h => h) (Or.inl ⟨by rfl, ?hy20_42⟩) hHeld ?rest20_42
        case hy20_42 => (intro W hSW; (try dsimp only at hSW); go_simp; try with_reducible rfl)
        try simp only [Act.put, List.setIfInBounds_toArray, List.set_cons_zero, List.set_cons_succ]
        refine wpAnyH_take (i := 21) (oi := ⟨some 42, .move (.tmp 41), 4, "check.go:251", #[⟨20, .data⟩, ⟨19, .chain⟩], none⟩) (v := ?v21_43) rfl (by kernel_rfl) (by kernel_rfl) (by kernel_rfl) (fun _ _ _ h => h) (Or.inl ⟨by rfl, ?hy21_43⟩) hHeld ?rest21_43
        case hy21_43 => (intro W hSW; (try dsimp only at hSW); go_simp; try with_reducible rfl)
        try simp only [Act.put, List.setIfInBounds_toArray, List.set_cons_zero, List.set_cons_succ]
        refine wpAnyH_take (i := 22) (oi := ⟨some 43, .load 140 (.tmp 2), 140, "check.go:251", #[⟨21, .guard⟩], some (21, true)⟩) (v := undef) rfl (by kernel_rfl) (by kernel_rfl) (by kernel_rfl) (fun _ _ _ h => h) (Or.inr ⟨by rfl, rfl⟩) hHeld ?_
        try simp only [Act.put, List.setIfInBounds_toArray, List.set_cons_zero, List.set_cons_succ]
        refine wpAnyH_take (i := 23) (oi := ⟨some 44, .fieldAddr 188 (.tmp 5) 2, 0, "check.go:251", #[⟨21, .guard⟩], some (21, true)⟩) (v := undef) rfl (by kernel_rfl) (by kernel_rfl) (by kernel_rfl) (fun _ _ _ h => h) (Or.inr ⟨by rfl, rfl⟩) hHeld ?_
        try simp only [Act.put, List.setIfInBounds_toArray, List.set_cons_zero, List.set_cons_succ]
        refine wpAnyH_take (i := 24) (oi := ⟨some 45, .load 4 (.tmp 44), 4, "check.go:251", #[⟨23, .data⟩, ⟨21, .guard⟩], some (21, true)⟩) (v := undef) rfl (by kernel_rfl) (by kernel_rfl) (by kernel_rfl) (fun _ _ _ h => h) (Or.inr ⟨by rfl, rfl⟩) hHeld ?_
        try simp only [Act.put, List.setIfInBounds_toArray, List.set_cons_zero, List.set_cons_succ]
        refine wpAnyH_take (i := 25) (oi := ⟨some 46, .fieldAddr 25 (.tmp 3) 3, 0, "check.go:251", #[⟨21, .guard⟩], some (21, true)⟩) (v := undef) rfl (by kernel_rfl) (by kernel_rfl) (by kernel_rfl) (fun _ _ _ h => h) (Or.inr ⟨by rfl, rfl⟩) hHeld ?_
        try simp only [Act.put, List.setIfInBounds_toArray, List.set_cons_zero, List.set_cons_succ]
        refine wpAnyH_take (i := 26) (oi := ⟨some 47, .load 9 (.tmp 46), 9, "check.go:251", #[⟨25, .data⟩, ⟨21, .guard⟩], some (21, true)⟩) (v := undef) rfl (by kernel_rfl) (by kernel_rfl) (by kernel_rfl) (fun _ _ _ h => h) (Or.inr ⟨by rfl, rfl⟩) hHeld ?_
        try simp only [Act.put, List.setIfInBounds_toArray, List.set_cons_zero, List.set_cons_succ]
        refine wpAnyH_ready (rs := [27]) (by kernel_rfl) (by simp) ?_
        refine AllReadyH.cons (o := ⟨some 48, .call { callee := .value (.func 142), args := #[.tmp 43, .tmp 45, .tmp 47], argTypes := #[140, 4, 9] }, 4, "check.go:252", #[⟨22, .data⟩, ⟨24, .data⟩, ⟨26, .data⟩, ⟨21, .chain⟩, ⟨21, .guard⟩], some (21, true)⟩) rfl (fun K hK => ?_) AllReadyH.nil
        go_simp
        refine hK.out _ _ hHeld (fun _ => ?_)
        clear hK K
        try simp only [Act.put, List.setIfInBounds_toArray, List.set_cons_zero, List.set_cons_succ]
        refine wpAnyH_take (i := 28) (oi := ⟨some 49, .pick (.tmp 42) (.tmp 48) (.const (.bool false)), 4, "check.go:251", #[⟨21, .data⟩, ⟨27, .data⟩], none⟩) (v := ?v28_44) rfl (by kernel_rfl) (by kernel_rfl) (by kernel_rfl) (fun _ _ _ h => h) (Or.inl ⟨by rfl, ?hy28_44⟩) hHeld ?rest28_44
        case hy28_44 => (intro W hSW; (try dsimp only at hSW); go_simp; try with_reducible rfl)
        try simp only [Act.put, List.setIfInBounds_toArray, List.set_cons_zero, List.set_cons_succ]
        refine wpAnyH_take (i := 29) (oi := ⟨some 50, .move (.tmp 49), 4, "check.go:251", #[⟨28, .data⟩, ⟨27, .chain⟩], none⟩) (v := ?v29_45) rfl (by kernel_rfl) (by kernel_rfl) (by kernel_rfl) (fun _ _ _ h => h) (Or.inl ⟨by rfl, ?hy29_45⟩) hHeld ?rest29_45
        case hy29_45 => (intro W hSW; (try dsimp only at hSW); go_simp; try with_reducible rfl)
        try simp only [Act.put, List.setIfInBounds_toArray, List.set_cons_zero, List.set_cons_succ]
        refine wpAnyH_take (i := 30) (oi := ⟨some 51, .fieldAddr 25 (.tmp 3) 4, 0, "check.go:251", #[⟨29, .guard⟩], some (29, true)⟩) (v := undef) rfl (by kernel_rfl) (by kernel_rfl) (by kernel_rfl) (fun _ _ _ h => h) (Or.inr ⟨by rfl, rfl⟩) hHeld ?_
        try simp only [Act.put, List.setIfInBounds_toArray, List.set_cons_zero, List.set_cons_succ]
        refine wpAnyH_take (i := 31) (oi := ⟨some 52, .load 23 (.tmp 51), 23, "check.go:251", #[⟨30, .data⟩, ⟨29, .guard⟩], some (29, true)⟩) (v := undef) rfl (by kernel_rfl) (by kernel_rfl) (by kernel_rfl) (fun _ _ _ h => h) (Or.inr ⟨by rfl, rfl⟩) hHeld ?_
        try simp only [Act.put, List.setIfInBounds_toArray, List.set_cons_zero, List.set_cons_succ]
        refine wpAnyH_take (i := 32) (oi := ⟨some 53, .call { callee := .builtin .len, args := #[.tmp 52], argTypes := #[23] }, 3, "check.go:251", #[⟨31, .data⟩, ⟨29, .guard⟩], some (29, true)⟩) (v := undef) rfl (by kernel_rfl) (by kernel_rfl) (by kernel_rfl) (fun _ _ _ h => h) (Or.inr ⟨by rfl, rfl⟩) hHeld ?_
        try simp only [Act.put, List.setIfInBounds_toArray, List.set_cons_zero, List.set_cons_succ]
        refine wpAnyH_take (i := 33) (oi := ⟨some 54, .fieldAddr 188 (.tmp 5) 3, 0, "check.go:251", #[⟨29, .guard⟩], some (29, true)⟩) (v := undef) rfl (by kernel_rfl) (by kernel_rfl) (by kernel_rfl) (fun _ _ _ h => h) (Or.inr ⟨by rfl, rfl⟩) hHeld ?_
        try simp only [Act.put, List.setIfInBounds_toArray, List.set_cons_zero, List.set_cons_succ]
        refine wpAnyH_take (i := 34) (oi := ⟨some 55, .load 3 (.tmp 54), 3, "check.go:251", #[⟨33, .data⟩, ⟨29, .guard⟩], some (29, true)⟩) (v := undef) rfl (by kernel_rfl) (by kernel_rfl) (by kernel_rfl) (fun _ _ _ h => h) (Or.inr ⟨by rfl, rfl⟩) hHeld ?_
        try simp only [Act.put, List.setIfInBounds_toArray, List.set_cons_zero, List.set_cons_succ]
        refine wpAnyH_take (i := 35) (oi := ⟨some 56, .binOp .eql 3 (.tmp 53) (.tmp 55) 3, 4, "check.go:251", #[⟨32, .data⟩, ⟨34, .data⟩, ⟨29, .guard⟩], some (29, true)⟩) (v := undef) rfl (by kernel_rfl) (by kernel_rfl) (by kernel_rfl) (fun _ _ _ h => h) (Or.inr ⟨by rfl, rfl⟩) hHeld ?_
        try simp only [Act.put, List.setIfInBounds_toArray, List.set_cons_zero, List.set_cons_succ]
        refine wpAnyH_take (i := 36) (oi := ⟨some 57, .pick (.tmp 50) (.tmp 56) (.const (.bool false)), 4, "check.go:251", #[⟨29, .data⟩, ⟨35, .data⟩], none⟩) (v := ?v36_46) rfl (by kernel_rfl) (by kernel_rfl) (by kernel_rfl) (fun _ _ _ h => h) (Or.inl ⟨by rfl, ?hy36_46⟩) hHeld ?rest36_46
        case hy36_46 => (intro W hSW; (try dsimp only at hSW); go_simp; try with_reducible rfl)
        try simp only [Act.put, List.setIfInBounds_toArray, List.set_cons_zero, List.set_cons_succ]
        refine wpAnyH_take (i := 37) (oi := ⟨some 58, .move (.tmp 57), 4, "check.go:251", #[⟨36, .data⟩, ⟨29, .chain⟩], none⟩) (v := ?v37_47) rfl (by kernel_rfl) (by kernel_rfl) (by kernel_rfl) (fun _ _ _ h => h) (Or.inl ⟨by rfl, ?hy37_47⟩) hHeld ?rest37_47
        case hy37_47 => (intro W hSW; (try dsimp only at hSW); go_simp; try with_reducible rfl)
        try simp only [Act.put, List.setIfInBounds_toArray, List.set_cons_zero, List.set_cons_succ]
        refine wpAnyH_take (i := 38) (oi := ⟨some 59, .fieldAddr 25 (.tmp 3) 4, 0, "check.go:251", #[⟨37, .guard⟩], some (37, true)⟩) (v := undef) rfl (by kernel_rfl) (by kernel_rfl) (by kernel_rfl) (fun _ _ _ h => h) (Or.inr ⟨by rfl, rfl⟩) hHeld ?_
        try simp only [Act.put, List.setIfInBounds_toArray, List.set_cons_zero, List.set_cons_succ]
        refine wpAnyH_take (i := 39) (oi := ⟨some 60, .load 23 (.tmp 59), 23, "check.go:251", #[⟨38, .data⟩, ⟨37, .guard⟩], some (37, true)⟩) (v := undef) rfl (by kernel_rfl) (by kernel_rfl) (by kernel_rfl) (fun _ _ _ h => h) (Or.inr ⟨by rfl, rfl⟩) hHeld ?_
        try simp only [Act.put, List.setIfInBounds_toArray, List.set_cons_zero, List.set_cons_succ]
        refine wpAnyH_take (i := 40) (oi := ⟨some 61, .load 140 (.tmp 2), 140, "check.go:251", #[⟨37, .guard⟩], some (37, true)⟩) (v := undef) rfl (by kernel_rfl) (by kernel_rfl) (by kernel_rfl) (fun _ _ _ h => h) (Or.inr ⟨by rfl, rfl⟩) hHeld ?_
        try simp only [Act.put, List.setIfInBounds_toArray, List.set_cons_zero, List.set_cons_succ]
        refine wpAnyH_ready (rs := [41]) (by kernel_rfl) (by simp) ?_
        refine AllReadyH.cons (o := ⟨some 62, .call { callee := .value (.func 144), args := #[.tmp 61], argTypes := #[140] }, 140, "check.go:253", #[⟨40, .data⟩, ⟨37, .chain⟩, ⟨37, .guard⟩], some (37, true)⟩) rfl (fun K hK => ?_) AllReadyH.nil
        go_simp
        refine hK.out _ _ hHeld (fun _ => ?_)
        clear hK K
        try simp only [Act.put, List.setIfInBounds_toArray, List.set_cons_zero, List.set_cons_succ]
        refine wpAnyH_ready (rs := [42]) (by kernel_rfl) (by simp) ?_
        refine AllReadyH.cons (o := ⟨some 63, .makeFunc (.func 91) #[.tmp 62] #[], 40, "check.go:251", #[⟨41, .data⟩, ⟨37, .guard⟩], some (37, true)⟩) rfl (fun K hK => ?_) AllReadyH.nil
        go_simp
        refine hK.out _ _ hHeld (fun _ => ?_)
        clear hK K
        try simp only [Act.put, List.setIfInBounds_toArray, List.set_cons_zero, List.set_cons_succ]
        refine wpAnyH_ready (rs := [43]) (by kernel_rfl) (by simp) ?_
        refine AllReadyH.cons (o := ⟨some 64, .call { callee := .value (.func 143), args := #[.tmp 60, .tmp 63], argTypes := #[23, 40] }, 4, "check.go:253", #[⟨39, .data⟩, ⟨42, .data⟩, ⟨41, .chain⟩, ⟨37, .guard⟩], some (37, true)⟩) rfl (fun K hK => ?_) AllReadyH.nil
        go_simp
        refine hK.out _ _ hHeld (fun _ => ?_)
        clear hK K
        try simp only [Act.put, List.setIfInBounds_toArray, List.set_cons_zero, List.set_cons_succ]
        refine wpAnyH_take (i := 44) (oi := ⟨some 65, .pick (.tmp 58) (.tmp 64) (.const (.bool false)), 4, "check.go:251", #[⟨37, .data⟩, ⟨43, .data⟩], none⟩) (v := ?v44_48) rfl (by kernel_rfl) (by kernel_rfl) (by kernel_rfl) (fun _ _ _ h => h) (Or.inl ⟨by rfl, ?hy44_48⟩) hHeld ?rest44_48
        case hy44_48 => (intro W hSW; (try dsimp only at hSW); go_simp; try with_reducible rfl)
        try simp only [Act.put, List.setIfInBounds_toArray, List.set_cons_zero, List.set_cons_succ]
        refine wpAnyH_take (i := 45) (oi := ⟨some 4, .assign (.tmp 65), 4, "check.go:251", #[⟨44, .data⟩, ⟨43, .chain⟩, ⟨0, .phase⟩, ⟨1, .phase⟩, ⟨2, .phase⟩, ⟨3, .phase⟩, ⟨4, .phase⟩, ⟨5, .phase⟩, ⟨6, .phase⟩, ⟨7, .phase⟩, ⟨8, .phase⟩, ⟨9, .phase⟩, ⟨10, .phase⟩, ⟨11, .phase⟩, ⟨12, .phase⟩, ⟨13, .phase⟩, ⟨14, .phase⟩, ⟨15, .phase⟩, ⟨16, .phase⟩, ⟨17, .phase⟩, ⟨18, .phase⟩, ⟨19, .phase⟩, ⟨20, .phase⟩, ⟨21, .phase⟩, ⟨22, .phase⟩, ⟨23, .phase⟩, ⟨24, .phase⟩, ⟨25, .phase⟩, ⟨26, .phase⟩, ⟨27, .phase⟩, ⟨28, .phase⟩, ⟨29, .phase⟩, ⟨30, .phase⟩, ⟨31, .phase⟩, ⟨32, .phase⟩, ⟨33, .phase⟩, ⟨34, .phase⟩, ⟨35, .phase⟩, ⟨36, .phase⟩, ⟨37, .phase⟩, ⟨38, .phase⟩, ⟨39, .phase⟩, ⟨40, .phase⟩, ⟨41, .phase⟩, ⟨42, .phase⟩, ⟨43, .phase⟩, ⟨44, .phase⟩], none⟩) (v := ?v45_49) rfl (by kernel_rfl) (by kernel_rfl) (by kernel_rfl) (fun _ _ _ h => h) (Or.inl ⟨by rfl, ?hy45_49⟩) hHeld ?rest45_49
        case hy45_49 => (intro W hSW; (try dsimp only at hSW); go_simp; try with_reducible rfl)
        try simp only [Act.put, List.setIfInBounds_toArray, List.set_cons_zero, List.set_cons_succ]
        refine wpAnyH_done (by kernel_rfl) ?_ _
        have HS := Lib.hid hHeld
        clear hHeld
        go_wp2_with fail
        go_ret
        exact ⟨by rw [HO.out]; simp [*], HS.out.2.2.2.2.2.2.2.2.2.2.2⟩
      | true =>
        refine wpAnyH_take (i := 11) (oi := ⟨some 32, .binOp .leq 2 (.tmp 29) (.tmp 31) 2, 4, "check.go:251", #[⟨8, .data⟩, ⟨10, .data⟩, ⟨6, .guard⟩], some (6, true)⟩) (v := ?v11_50) rfl (by kernel_rfl) (by kernel_rfl) (by kernel_rfl) (fun _ _ _ h => h) (Or.inl ⟨by rfl, ?hy11_50⟩) hHeld ?rest11_50
        case hy11_50 => (intro W hSW; (try dsimp only at hSW); go_simp; try with_reducible rfl)
        try simp only [Act.put, List.setIfInBounds_toArray, List.set_cons_zero, List.set_cons_succ]
        refine wpAnyH_take (i := 12) (oi := ⟨some 33, .pick (.tmp 27) (.tmp 32) (.const (.bool false)), 4, "check.go:251", #[⟨6, .data⟩, ⟨11, .data⟩], none⟩) (v := ?v12_51) rfl (by kernel_rfl) (by kernel_rfl) (by kernel_rfl) (fun _ _ _ h => h) (Or.inl ⟨by rfl, ?hy12_51⟩) hHeld ?rest12_51
        case hy12_51 => (intro W hSW; (try dsimp only at hSW); go_simp; try with_reducible rfl)
        try simp only [Act.put, List.setIfInBounds_toArray, List.set_cons_zero, List.set_cons_succ]
        refine wpAnyH_take (i := 13) (oi := ⟨some 34, .move (.tmp 33), 4, "check.go:251", #[⟨12, .data⟩, ⟨6, .chain⟩], none⟩) (v := ?v13_52) rfl (by kernel_rfl) (by kernel_rfl) (by kernel_rfl) (fun _ _ _ h => h) (Or.inl ⟨by rfl, ?hy13_52⟩) hHeld ?rest13_52
        case hy13_52 => (intro W hSW; (try dsimp only at hSW); go_simp; try with_reducible rfl)
        try simp only [Act.put, List.setIfInBounds_toArray, List.set_cons_zero, List.set_cons_succ]
        refine wpAnyH_take (i := 14) (oi := ⟨some 35, .load 140 (.tmp 2), 140, "check.go:251", #[⟨13, .guard⟩], some (13, true)⟩) (v := ?v14_53) rfl (by kernel_rfl) (by kernel_rfl) (by kernel_rfl) (fun _ _ _ h => h) (Or.inl ⟨by rfl, ?hy14_53⟩) hHeld ?rest14_53
        case hy14_53 => (intro W hSW; (try dsimp only at hSW); go_simp; try with_reducible rfl)
        try simp only [Act.put, List.setIfInBounds_toArray, List.set_cons_zero, List.set_cons_succ]
        refine wpAnyH_take (i := 15) (oi := ⟨some 36, .fieldAddr 188 (.tmp 5) 1, 0, "check.go:251", #[⟨13, .guard⟩], some (13, true)⟩) (v := ?v15_54) rfl (by kernel_rfl) (by kernel_rfl) (by kernel_rfl) (fun _ _ _ h => h) (Or.inl ⟨by rfl, ?hy15_54⟩) hHeld ?rest15_54
        case hy15_54 => (intro W hSW; (try dsimp only at hSW); go_simp; try with_reducible rfl)
        try simp only [Act.put, List.setIfInBounds_toArray, List.set_cons_zero, List.set_cons_succ]
        refine wpAnyH_take (i := 16) (oi := ⟨some 37, .load 4 (.tmp 36), 4, "check.go:251", #[⟨15, .data⟩, ⟨13, .guard⟩], some (13, true)⟩) (v := ?v16_55) rfl (by kernel_rfl) (by kernel_rfl) (by kernel_rfl) (fun _ _ _ h => h) (Or.inl ⟨by rfl, ?hy16_55⟩) hHeld ?rest16_55
        case hy16_55 => (intro W hSW; (try dsimp only at hSW); go_simp; try with_reducible rfl)
        try simp only [Act.put, List.setIfInBounds_toArray, List.set_cons_zero, List.set_cons_succ]
        refine wpAnyH_take (i := 17) (oi := ⟨some 38, .fieldAddr 25 (.tmp 3) 2, 0, "check.go:251", #[⟨13, .guard⟩], some (13, true)⟩) (v := ?v17_56) rfl (by kernel_rfl) (by kernel_rfl) (by kernel_rfl) (fun _ _ _ h => h) (Or.inl ⟨by rfl, ?hy17_56⟩) hHeld ?rest17_56
        case hy17_56 => (intro W hSW; (try dsimp only at hSW); go_simp; try with_reducible rfl)
        try simp only [Act.put, List.setIfInBounds_toArray, List.set_cons_zero, List.set_cons_succ]
        refine wpAnyH_take (i := 18) (oi := ⟨some 39, .load 9 (.tmp 38), 9, "check.go:251", #[⟨17, .data⟩, ⟨13, .guard⟩], some (13, true)⟩) (v := ?v18_57) rfl (by kernel_rfl) (by kernel_rfl) (by kernel_rfl) (fun _ _ _ h => h) (Or.inl ⟨by rfl, ?hy18_57⟩) hHeld ?rest18_57
        case hy18_57 => (intro W hSW; (try dsimp only at hSW); go_simp; try with_reducible rfl)
        try simp only [Act.put, List.setIfInBounds_toArray, List.set_cons_zero, List.set_cons_succ]
        cases n1 with
        | false =>
          refine wpAnyH_ready (rs := [19]) (by kernel_rfl) (by simp) ?_
          refine AllReadyH.cons (o := ⟨some 40, .call { callee := .value (.func 142), args := #[.tmp 35, .tmp 37, .tmp 39], argTypes := #[140, 4, 9] }, 4, "check.go:252", #[⟨14, .data⟩, ⟨16, .data⟩, ⟨18, .data⟩, ⟨13, .chain⟩, ⟨13, .guard⟩], some (13, true)⟩) rfl (fun K hK => ?_) AllReadyH.nil
          go_simp
          go_at_call 142
          refine (N1.out _ hHeld).mono ?_
          rintro e w7 ⟨rfl, s7⟩
          clear hHeld
          have hHeld := s7
          clear s7
          refine hK.out _ _ hHeld (fun _ => ?_)
          clear hK K
          try simp only [Act.put, List.setIfInBounds_toArray, List.set_cons_zero, List.set_cons_succ]
          refine wpAnyH_take (i := 20) (oi := ⟨some 41, .pick (.tmp 34) (.tmp 40) (.const (.bool false)), 4, "check.go:251", #[⟨13, .data⟩, ⟨19, .data⟩], none⟩) (v := ?v20_58) rfl (by kernel_rfl) (by kernel_rfl) (by kernel_rfl) (fun _ _ _ h => h) (Or.inl ⟨by rfl, ?hy20_58⟩) hHeld ?rest20_58
          case hy20_58 => (intro W hSW; (try dsimp only at hSW); go_simp; try with_reducible rfl)
          try simp only [Act.put, List.setIfInBounds_toArray, List.set_cons_zero, List.set_cons_succ]
          refine wpAnyH_take (i := 21) (oi := ⟨some 42, .move (.tmp 41), 4, "check.go:251", #[⟨20, .data⟩, ⟨19, .chain⟩], none⟩) (v := ?v21_59) rfl (by kernel_rfl) (by kernel_rfl) (by kernel_rfl) (fun _ _ _ h => h) (Or.inl ⟨by rfl, ?hy21_59⟩) hHeld ?rest21_59
          case hy21_59 => (intro W hSW; (try dsimp only at hSW); go_simp; try with_reducible rfl)
          try simp only [Act.put, List.setIfInBounds_toArray, List.set_cons_zero, List.set_cons_succ]
          refine wpAnyH_take (i := 22) (oi := ⟨some 43, .load 140 (.tmp 2), 140, "check.go:251", #[⟨21, .guard⟩], some (21, true)⟩) (v := undef) rfl (by kernel_rfl) (by kernel_rfl) (by kernel_rfl) (fun _ _ _ h => h) (Or.inr ⟨by rfl, rfl⟩) hHeld ?_
          try simp only [Act.put, List.setIfInBounds_toArray, List.set_cons_zero, List.set_cons_succ]
          refine wpAnyH_take (i := 23) (oi := ⟨some 44, .fieldAddr 188 (.tmp 5) 2, 0, "check.go:251", #[⟨21, .guard⟩], some (21, true)⟩) (v := undef) rfl (by kernel_rfl) (by kernel_rfl) (by kernel_rfl) (fun _ _ _ h => h) (Or.inr ⟨by rfl, rfl⟩) hHeld ?_
          try simp only [Act.put, List.setIfInBounds_toArray, List.set_cons_zero, List.set_cons_succ]
          refine wpAnyH_take (i := 24) (oi := ⟨some 45, .load 4 (.tmp 44), 4, "check.go:251", #[⟨23, .data⟩, ⟨21, .guard⟩], some (21, true)⟩) (v := undef) rfl (by kernel_rfl) (by kernel_rfl) (by kernel_rfl) (fun _ _ _ h => h) (Or.inr ⟨by rfl, rfl⟩) hHeld ?_
          try simp only [Act.put, List.setIfInBounds_toArray, List.set_cons_zero, List.set_cons_succ]
          refine wpAnyH_take (i := 25) (oi := ⟨some 46, .fieldAddr 25 (.tmp 3) 3, 0, "check.go:251", #[⟨21, .guard⟩], some (21, true)⟩) (v := undef) rfl (by kernel_rfl) (by kernel_rfl) (by kernel_rfl) (fun _ _ _ h => h) (Or.inr ⟨by rfl, rfl⟩) hHeld ?_
          try simp only [Act.put, List.setIfInBounds_toArray, List.set_cons_zero, List.set_cons_succ]
          refine wpAnyH_take (i := 26) (oi := ⟨some 47, .load 9 (.tmp 46), 9, "check.go:251", #[⟨25, .data⟩, ⟨21, .guard⟩], some (21, true)⟩) (v := undef) rfl (by kernel_rfl) (by kernel_rfl) (by kernel_rfl) (fun _ _ _ h => h) (Or.inr ⟨by rfl, rfl⟩) hHeld ?_
          try simp only [Act.put, List.setIfInBounds_toArray, List.set_cons_zero, List.set_cons_succ]
          refine wpAnyH_ready (rs := [27]) (by kernel_rfl) (by simp) ?_
          refine AllReadyH.cons (o := ⟨some 48, .call { callee := .value (.func 142), args := #[.tmp 43, .tmp 45, .tmp 47], argTypes := #[140, 4, 9] }, 4, "check.go:252", #[⟨22, .data⟩, ⟨24, .data⟩, ⟨26, .data⟩, ⟨21, .chain⟩, ⟨21, .guard⟩], some (21, true)⟩) rfl (fun K hK => ?_) AllReadyH.nil
          go_simp
          refine hK.out _ _ hHeld (fun _ => ?_)
          clear hK K
          try simp only [Act.put, List.setIfInBounds_toArray, List.set_cons_zero, List.set_cons_succ]
          refine wpAnyH_take (i := 28) (oi := ⟨some 49, .pick (.tmp 42) (.tmp 48) (.const (.bool false)), 4, "check.go:251", #[⟨21, .data⟩, ⟨27, .data⟩], none⟩) (v := ?v28_60) rfl (by kernel_rfl) (by kernel_rfl) (by kernel_rfl) (fun _ _ _ h => h) (Or.inl ⟨by rfl, ?hy28_60⟩) hHeld ?rest28_60
          case hy28_60 => (intro W hSW; (try dsimp only at hSW); go_simp; try with_reducible rfl)
          try simp only [Act.put, List.setIfInBounds_toArray, List.set_cons_zero, List.set_cons_succ]
          refine wpAnyH_take (i := 29) (oi := ⟨some 50, .move (.tmp 49), 4, "check.go:251", #[⟨28, .data⟩, ⟨27, .chain⟩], none⟩) (v := ?v29_61) rfl (by kernel_rfl) (by kernel_rfl) (by kernel_rfl) (fun _ _ _ h => h) (Or.inl ⟨by rfl, ?hy29_61⟩) hHeld ?rest29_61
          case hy29_61 => (intro W hSW; (try dsimp only at hSW); go_simp; try with_reducible rfl)
          try simp only [Act.put, List.setIfInBounds_toArray, List.set_cons_zero, List.set_cons_succ]
          refine wpAnyH_take (i := 30) (oi := ⟨some 51, .fieldAddr 25 (.tmp 3) 4, 0, "check.go:251", #[⟨29, .guard⟩], some (29, true)⟩) (v := undef) rfl (by kernel_rfl) (by kernel_rfl) (by kernel_rfl) (fun _ _ _ h => h) (Or.inr ⟨by rfl, rfl⟩) hHeld ?_
          try simp only [Act.put, List.setIfInBounds_toArray, List.set_cons_zero, List.set_cons_succ]
          refine wpAnyH_take (i := 31) (oi := ⟨some 52, .load 23 (.tmp 51), 23, "check.go:251", #[⟨30, .data⟩, ⟨29, .guard⟩], some (29, true)⟩) (v := undef) rfl (by kernel_rfl) (by kernel_rfl) (by kernel_rfl) (fun _ _ _ h => h) (Or.inr ⟨by rfl, rfl⟩) hHeld ?_
          try simp only [Act.put, List.setIfInBounds_toArray, List.set_cons_zero, List.set_cons_succ]
          refine wpAnyH_take (i := 32) (oi := ⟨some 53, .call { callee := .builtin .len, args := #[.tmp 52], argTypes := #[23] }, 3, "check.go:251", #[⟨31, .data⟩, ⟨29, .guard⟩], some (29, true)⟩) (v := undef) rfl (by kernel_rfl) (by kernel_rfl) (by kernel_rfl) (fun _ _ _ h => h) (Or.inr ⟨by rfl, rfl⟩) hHeld ?_
          try simp only [Act.put, List.setIfInBounds_toArray, List.set_cons_zero, List.set_cons_succ]
          refine wpAnyH_take (i := 33) (oi := ⟨some 54, .fieldAddr 188 (.tmp 5) 3, 0, "check.go:251", #[⟨29, .guard⟩], some (29, true)⟩) (v := undef) rfl (by kernel_rfl) (by kernel_rfl) (by kernel_rfl) (fun _ _ _ h => h) (Or.inr ⟨by rfl, rfl⟩) hHeld ?_
          try simp only [Act.put, List.setIfInBounds_toArray, List.set_cons_zero, List.set_cons_succ]
          refine wpAnyH_take (i := 34) (oi := ⟨some 55, .load 3 (.tmp 54), 3, "check.go:251", #[⟨33, .data⟩, ⟨29, .guard⟩], some (29, true)⟩) (v := undef) rfl (by kernel_rfl) (by kernel_rfl) (by kernel_rfl) (fun _ _ _ h => h) (Or.inr ⟨by rfl, rfl⟩) hHeld ?_
          try simp only [Act.put, List.setIfInBounds_toArray, List.set_cons_zero, List.set_cons_succ]
          refine wpAnyH_take (i := 35) (oi := ⟨some 56, .binOp .eql 3 (.tmp 53) (.tmp 55) 3, 4, "check.go:251", #[⟨32, .data⟩, ⟨34, .data⟩, ⟨29, .guard⟩], some (29, true)⟩) (v := undef) rfl (by kernel_rfl) (by kernel_rfl) (by kernel_rfl) (fun _ _ _ h => h) (Or.inr ⟨by rfl, rfl⟩) hHeld ?_
          try simp only [Act.put, List.setIfInBounds_toArray, List.set_cons_zero, List.set_cons_succ]
          refine wpAnyH_take (i := 36) (oi := ⟨some 57, .pick (.tmp 50) (.tmp 56) (.const (.bool false)), 4, "check.go:251", #[⟨29, .data⟩, ⟨35, .data⟩], none⟩) (v := ?v36_62) rfl (by kernel_rfl) (by kernel_rfl) (by kernel_rfl) (fun _ _ _ h => h) (Or.inl ⟨by rfl, ?hy36_62⟩) hHeld ?rest36_62
          case hy36_62 => (intro W hSW; (try dsimp only at hSW); go_simp; try with_reducible rfl)
          try simp only [Act.put, List.setIfInBounds_toArray, List.set_cons_zero, List.set_cons_succ]
          refine wpAnyH_take (i := 37) (oi := ⟨some 58, .move (.tmp 57), 4, "check.go:251", #[⟨36, .data⟩, ⟨29, .chain⟩], none⟩) (v := ?v37_63) rfl (by kernel_rfl) (by kernel_rfl) (by kernel_rfl) (fun _ _ _ h => h) (Or.inl ⟨by rfl, ?hy37_63⟩) hHeld ?rest37_63
          case hy37_63 => (intro W hSW; (try dsimp only at hSW); go_simp; try with_reducible rfl)
          try simp only [Act.put, List.setIfInBounds_toArray, List.set_cons_zero, List.set_cons_succ]
          refine wpAnyH_take (i := 38) (oi := ⟨some 59, .fieldAddr 25 (.tmp 3) 4, 0, "check.go:251", #[⟨37, .guard⟩], some (37, true)⟩) (v := undef) rfl (by kernel_rfl) (by kernel_rfl) (by kernel_rfl) (fun _ _ _ h => h) (Or.inr ⟨by rfl, rfl⟩) hHeld ?_
          try simp only [Act.put, List.setIfInBounds_toArray, List.set_cons_zero, List.set_cons_succ]
          refine wpAnyH_take (i := 39) (oi := ⟨some 60, .load 23 (.tmp 59), 23, "check.go:251", #[⟨38, .data⟩, ⟨37, .guard⟩], some (37, true)⟩) (v := undef) rfl (by kernel_rfl) (by kernel_rfl) (by kernel_rfl) (fun _ _ _ h => h) (Or.inr ⟨by rfl, rfl⟩) hHeld ?_
          try simp only [Act.put, List.setIfInBounds_toArray, List.set_cons_zero, List.set_cons_succ]
          refine wpAnyH_take (i := 40) (oi := ⟨some 61, .load 140 (.tmp 2), 140, "check.go:251", #[⟨37, .guard⟩], some (37, true)⟩) (v := undef) rfl (by kernel_rfl) (by kernel_rfl) (by kernel_rfl) (fun _ _ _ h => h) (Or.inr ⟨by rfl, rfl⟩) hHeld ?_
          try simp only [Act.put, List.setIfInBounds_toArray, List.set_cons_zero, List.set_cons_succ]
          refine wpAnyH_ready (rs := [41]) (by kernel_rfl) (by simp) ?_
          refine AllReadyH.cons (o := ⟨some 62, .call { callee := .value (.func 144), args := #[.tmp 61], argTypes := #[140] }, 140, "check.go:253", #[⟨40, .data⟩, ⟨37, .chain⟩, ⟨37, .guard⟩], some (37, true)⟩) rfl (fun K hK => ?_) AllReadyH.nil
          go_simp
          refine hK.out _ _ hHeld (fun _ => ?_)
          clear hK K
          try simp only [Act.put, List.setIfInBounds_toArray, List.set_cons_zero, List.set_cons_succ]
          refine wpAnyH_ready (rs := [42]) (by kernel_rfl) (by simp) ?_
          refine AllReadyH.cons (o := ⟨some 63, .makeFunc (.func 91) #[.tmp 62] #[], 40, "check.go:251", #[⟨41, .data⟩, ⟨37, .guard⟩], some (37, true)⟩) rfl (fun K hK => ?_) AllReadyH.nil
          go_simp
          refine hK.out _ _ hHeld (fun _ => ?_)
          clear hK K
          try simp only [Act.put, List.setIfInBounds_toArray, List.set_cons_zero, List.set_cons_succ]
          refine wpAnyH_ready (rs := [43]) (by kernel_rfl) (by simp) ?_
          refine AllReadyH.cons (o := ⟨some 64, .call { callee := .value (.func 143), args := #[.tmp 60, .tmp 63], argTypes := #[23, 40] }, 4, "check.go:253", #[⟨39, .data⟩, ⟨42, .data⟩, ⟨41, .chain⟩, ⟨37, .guard⟩], some (37, true)⟩) rfl (fun K hK => ?_) AllReadyH.nil
          go_simp
          refine hK.out _ _ hHeld (fun _ => ?_)
          clear hK K
          try simp only [Act.put, List.setIfInBounds_toArray, List.set_cons_zero, List.set_cons_succ]
          refine wpAnyH_take (i := 44) (oi := ⟨some 65, .pick (.tmp 58) (.tmp 64) (.const (.bool false)), 4, "check.go:251", #[⟨37, .data⟩, ⟨43, .data⟩], none⟩) (v := ?v44_64) rfl (by kernel_rfl) (by kernel_rfl) (by kernel_rfl) (fun _ _ _ h => h) (Or.inl ⟨by rfl, ?hy44_64⟩) hHeld ?rest44_64
          case hy44_64 => (intro W hSW; (try dsimp only at hSW); go_simp; try with_reducible rfl)
          try simp only [Act.put, List.setIfInBounds_toArray, List.set_cons_zero, List.set_cons_succ]
          refine wpAnyH_take (i := 45) (oi := ⟨some 4, .assign (.tmp 65), 4, "check.go:251", #[⟨44, .data⟩, ⟨43, .chain⟩, ⟨0, .phase⟩, ⟨1, .phase⟩, ⟨2, .phase⟩, ⟨3, .phase⟩, ⟨4, .phase⟩, ⟨5, .phase⟩, ⟨6, .phase⟩, ⟨7, .phase⟩, ⟨8, .phase⟩, ⟨9, .phase⟩, ⟨10, .phase⟩, ⟨11, .phase⟩, ⟨12, .phase⟩, ⟨13, .phase⟩, ⟨14, .phase⟩, ⟨15, .phase⟩, ⟨16, .phase⟩, ⟨17, .phase⟩, ⟨18, .phase⟩, ⟨19, .phase⟩, ⟨20, .phase⟩, ⟨21, .phase⟩, ⟨22, .phase⟩, ⟨23, .phase⟩, ⟨24, .phase⟩, ⟨25, .phase⟩, ⟨26, .phase⟩, ⟨27, .phase⟩, ⟨28, .phase⟩, ⟨29, .phase⟩, ⟨30, .phase⟩, ⟨31, .phase⟩, ⟨32, .phase⟩, ⟨33, .phase⟩, ⟨34, .phase⟩, ⟨35, .phase⟩, ⟨36, .phase⟩, ⟨37, .phase⟩, ⟨38, .phase⟩, ⟨39, .phase⟩, ⟨40, .phase⟩, ⟨41, .phase⟩, ⟨42, .phase⟩, ⟨43, .phase⟩, ⟨44, .phase⟩], none⟩) (v := ?v45_65) rfl (by kernel_rfl) (by kernel_rfl) (by kernel_rfl) (fun _ _ _ h => h) (Or.inl ⟨by rfl, ?hy45_65⟩) hHeld ?rest45_65
          case hy45_65 => (intro W hSW; (try dsimp only at hSW); go_simp; try with_reducible rfl)
          try simp only [Act.put, List.setIfInBounds_toArray, List.set_cons_zero, List.set_cons_succ]
          refine wpAnyH_done (by kernel_rfl) ?_ _
          have HS := Lib.hid hHeld
          clear hHeld
          go_wp2_with fail
          go_ret
          exact ⟨by rw [HO.out]; simp [*], HS.out.2.2.2.2.2.2.2.2.2.2.2⟩
        | true =>
          refine wpAnyH_ready (rs := [19]) (by kernel_rfl) (by simp) ?_
          refine AllReadyH.cons (o := ⟨some 40, .call { callee := .value (.func 142), args := #[.tmp 35, .tmp 37, .tmp 39], argTypes := #[140, 4, 9] }, 4, "check.go:252", #[⟨14, .data⟩, ⟨16, .data⟩, ⟨18, .data⟩, ⟨13, .chain⟩, ⟨13, .guard⟩], some (13, true)⟩) rfl (fun K hK => ?_) AllReadyH.nil
          go_simp
          go_at_call 142
          refine (N1.out _ hHeld).mono ?_
          rintro e w7 ⟨rfl, s7⟩
          clear hHeld
          have hHeld := s7
          clear s7
          refine hK.out _ _ hHeld (fun _ => ?_)
          clear hK K
          try simp only [Act.put, List.setIfInBounds_toArray, List.set_cons_zero, List.set_cons_succ]
          refine wpAnyH_take (i := 20) (oi := ⟨some 41, .pick (.tmp 34) (.tmp 40) (.const (.bool false)), 4, "check.go:251", #[⟨13, .data⟩, ⟨19, .data⟩], none⟩) (v := ?v20_66) rfl (by kernel_rfl) (by kernel_rfl) (by kernel_rfl) (fun _ _ _ h => h) (Or.inl ⟨by rfl, ?hy20_66⟩) hHeld ?rest20_66
          case hy20_66 => (intro W hSW; (try dsimp only at hSW); go_simp; try with_reducible rfl)
          try simp only [Act.put, List.setIfInBounds_toArray, List.set_cons_zero, List.set_cons_succ]
          refine wpAnyH_take (i := 21) (oi := ⟨some 42, .move (.tmp 41), 4, "check.go:251", #[⟨20, .data⟩, ⟨19, .chain⟩], none⟩) (v := ?v21_67) rfl (by kernel_rfl) (by kernel_rfl) (by kernel_rfl) (fun _ _ _ h => h) (Or.inl ⟨by rfl, ?hy21_67⟩) hHeld ?rest21_67
          case hy21_67 => (intro W hSW; (try dsimp only at hSW); go_simp; try with_reducible rfl)
          try simp only [Act.put, List.setIfInBounds_toArray, List.set_cons_zero, List.set_cons_succ]
          refine wpAnyH_take (i := 22) (oi := ⟨some 43, .load 140 (.tmp 2), 140, "check.go:251", #[⟨21, .guard⟩], some (21, true)⟩) (v := ?v22_68) rfl (by kernel_rfl) (by kernel_rfl) (by kernel_rfl) (fun _ _ _ h => h) (Or.inl ⟨by rfl, ?hy22_68⟩) hHeld ?rest22_68
          case hy22_68 => (intro W hSW; (try dsimp only at hSW); go_simp; try with_reducible rfl)
          try simp only [Act.put, List.setIfInBounds_toArray, List.set_cons_zero, List.set_cons_succ]
          refine wpAnyH_take (i := 23) (oi := ⟨some 44, .fieldAddr 188 (.tmp 5) 2, 0, "check.go:251", #[⟨21, .guard⟩], some (21, true)⟩) (v := ?v23_69) rfl (by kernel_rfl) (by kernel_rfl) (by kernel_rfl) (fun _ _ _ h => h) (Or.inl ⟨by rfl, ?hy23_69⟩) hHeld ?rest23_69
          case hy23_69 => (intro W hSW; (try dsimp only at hSW); go_simp; try with_reducible rfl)
          try simp only [Act.put, List.setIfInBounds_toArray, List.set_cons_zero, List.set_cons_succ]
          refine wpAnyH_take (i := 24) (oi := ⟨some 45, .load 4 (.tmp 44), 4, "check.go:251", #[⟨23, .data⟩, ⟨21, .guard⟩], some (21, true)⟩) (v := ?v24_70) rfl (by kernel_rfl) (by kernel_rfl) (by kernel_rfl) (fun _ _ _ h => h) (Or.inl ⟨by rfl, ?hy24_70⟩) hHeld ?rest24_70
          case hy24_70 => (intro W hSW; (try dsimp only at hSW); go_simp; try with_reducible rfl)
          try simp only [Act.put, List.setIfInBounds_toArray, List.set_cons_zero, List.set_cons_succ]
          refine wpAnyH_take (i := 25) (oi := ⟨some 46, .fieldAddr 25 (.tmp 3) 3, 0, "check.go:251", #[⟨21, .guard⟩], some (21, true)⟩) (v := ?v25_71) rfl (by kernel_rfl) (by kernel_rfl) (by kernel_rfl) (fun _ _ _ h => h) (Or.inl ⟨by rfl, ?hy25_71⟩) hHeld ?rest25_71
          case hy25_71 => (intro W hSW; (try dsimp only at hSW); go_simp; try with_reducible rfl)
          try simp only [Act.put, List.setIfInBounds_toArray, List.set_cons_zero, List.set_cons_succ]
          refine wpAnyH_take (i := 26) (oi := ⟨some 47, .load 9 (.tmp 46), 9, "check.go:251", #[⟨25, .data⟩, ⟨21, .guard⟩], some (21, true)⟩) (v := ?v26_72) rfl (by kernel_rfl) (by kernel_rfl) (by kernel_rfl) (fun _ _ _ h => h) (Or.inl ⟨by rfl, ?hy26_72⟩) hHeld ?rest26_72
          case hy26_72 => (intro W hSW; (try dsimp only at hSW); go_simp; try with_reducible rfl)
          try simp only [Act.put, List.setIfInBounds_toArray, List.set_cons_zero, List.set_cons_succ]
          cases n2 with
          | false =>
            refine wpAnyH_ready (rs := [27]) (by kernel_rfl) (by simp) ?_
            refine AllReadyH.cons (o := ⟨some 48, .call { callee := .value (.func 142), args := #[.tmp 43, .tmp 45, .tmp 47], argTypes := #[140, 4, 9] }, 4, "check.go:252", #[⟨22, .data⟩, ⟨24, .data⟩, ⟨26, .data⟩, ⟨21, .chain⟩, ⟨21, .guard⟩], some (21, true)⟩) rfl (fun K hK => ?_) AllReadyH.nil
            go_simp
            go_at_call 142
            refine (N2.out _ hHeld).mono ?_
            rintro e w7 ⟨rfl, s7⟩
            clear hHeld
            have hHeld := s7
            clear s7
            refine hK.out _ _ hHeld (fun _ => ?_)
            clear hK K
            try simp only [Act.put, List.setIfInBounds_toArray, List.set_cons_zero, List.set_cons_succ]
            refine wpAnyH_take (i := 28) (oi := ⟨some 49, .pick (.tmp 42) (.tmp 48) (.const (.bool false)), 4, "check.go:251", #[⟨21, .data⟩, ⟨27, .data⟩], none⟩) (v := ?v28_73) rfl (by kernel_rfl) (by kernel_rfl) (by kernel_rfl) (fun _ _ _ h => h) (Or.inl ⟨by rfl, ?hy28_73⟩) hHeld ?rest28_73
            case hy28_73 => (intro W hSW; (try dsimp only at hSW); go_simp; try with_reducible rfl)
            try simp only [Act.put, List.setIfInBounds_toArray, List.set_cons_zero, List.set_cons_succ]
            refine wpAnyH_take (i := 29) (oi := ⟨some 50, .move (.tmp 49), 4, "check.go:251", #[⟨28, .data⟩, ⟨27, .chain⟩], none⟩) (v := ?v29_74) rfl (by kernel_rfl) (by kernel_rfl) (by kernel_rfl) (fun _ _ _ h => h) (Or.inl ⟨by rfl, ?hy29_74⟩) hHeld ?rest29_74
            case hy29_74 => (intro W hSW; (try dsimp only at hSW); go_simp; try with_reducible rfl)
            try simp only [Act.put, List.setIfInBounds_toArray, List.set_cons_zero, List.set_cons_succ]
            refine wpAnyH_take (i := 30) (oi := ⟨some 51, .fieldAddr 25 (.tmp 3) 4, 0, "check.go:251", #[⟨29, .guard⟩], some (29, true)⟩) (v := undef) rfl (by kernel_rfl) (by kernel_rfl) (by kernel_rfl) (fun _ _ _ h => h) (Or.inr ⟨by rfl, rfl⟩) hHeld ?_
            try simp only [Act.put, List.setIfInBounds_toArray, List.set_cons_zero, List.set_cons_succ]
            refine wpAnyH_take (i := 31) (oi := ⟨some 52, .load 23 (.tmp 51), 23, "check.go:251", #[⟨30, .data⟩, ⟨29, .guard⟩], some (29, true)⟩) (v := undef) rfl (by kernel_rfl) (by kernel_rfl) (by kernel_rfl) (fun _ _ _ h => h) (Or.inr ⟨by rfl, rfl⟩) hHeld ?_
            try simp only [Act.put, List.setIfInBounds_toArray, List.set_cons_zero, List.set_cons_succ]
            refine wpAnyH_take (i := 32) (oi := ⟨some 53, .call { callee := .builtin .len, args := #[.tmp 52], argTypes := #[23] }, 3, "check.go:251", #[⟨31, .data⟩, ⟨29, .guard⟩], some (29, true)⟩) (v := undef) rfl (by kernel_rfl) (by kernel_rfl) (by kernel_rfl) (fun _ _ _ h => h) (Or.inr ⟨by rfl, rfl⟩) hHeld ?_
            try simp only [Act.put, List.setIfInBounds_toArray, List.set_cons_zero, List.set_cons_succ]
            refine wpAnyH_take (i := 33) (oi := ⟨some 54, .fieldAddr 188 (.tmp 5) 3, 0, "check.go:251", #[⟨29, .guard⟩], some (29, true)⟩) (v := undef) rfl (by kernel_rfl) (by kernel_rfl) (by kernel_rfl) (fun _ _ _ h => h) (Or.inr ⟨by rfl, rfl⟩) hHeld ?_
            try simp only [Act.put, List.setIfInBounds_toArray, List.set_cons_zero, List.set_cons_succ]
            refine wpAnyH_take (i := 34) (oi := ⟨some 55, .load 3 (.tmp 54), 3, "check.go:251", #[⟨33, .data⟩, ⟨29, .guard⟩], some (29, true)⟩) (v := undef) rfl (by kernel_rfl) (by kernel_rfl) (by kernel_rfl) (fun _ _ _ h => h) (Or.inr ⟨by rfl, rfl⟩) hHeld ?_
            try simp only [Act.put, List.setIfInBounds_toArray, List.set_cons_zero, List.set_cons_succ]
            refine wpAnyH_take (i := 35) (oi := ⟨some 56, .binOp .eql 3 (.tmp 53) (.tmp 55) 3, 4, "check.go:251", #[⟨32, .data⟩, ⟨34, .data⟩, ⟨29, .guard⟩], some (29, true)⟩) (v := undef) rfl (by kernel_rfl) (by kernel_rfl) (by kernel_rfl) (fun _ _ _ h => h) (Or.inr ⟨by rfl, rfl⟩) hHeld ?_
            try simp only [Act.put, List.setIfInBounds_toArray, List.set_cons_zero, List.set_cons_succ]
            refine wpAnyH_take (i := 36) (oi := ⟨some 57, .pick (.tmp 50) (.tmp 56) (.const (.bool false)), 4, "check.go:251", #[⟨29, .data⟩, ⟨35, .data⟩], none⟩) (v := ?v36_75) rfl (by kernel_rfl) (by kernel_rfl) (by kernel_rfl) (fun _ _ _ h => h) (Or.inl ⟨by rfl, ?hy36_75⟩) hHeld ?rest36_75
            case hy36_75 => (intro W hSW; (try dsimp only at hSW); go_simp; try with_reducible rfl)
            try simp only [Act.put, List.setIfInBounds_toArray, List.set_cons_zero, List.set_cons_succ]
            refine wpAnyH_take (i := 37) (oi := ⟨some 58, .move (.tmp 57), 4, "check.go:251", #[⟨36, .data⟩, ⟨29, .chain⟩], none⟩) (v := ?v37_76) rfl (by kernel_rfl) (by kernel_rfl) (by kernel_rfl) (fun _ _ _ h => h) (Or.inl ⟨by rfl, ?hy37_76⟩) hHeld ?rest37_76
            case hy37_76 => (intro W hSW; (try dsimp only at hSW); go_simp; try with_reducible rfl)
            try simp only [Act.put, List.setIfInBounds_toArray, List.set_cons_zero, List.set_cons_succ]
            refine wpAnyH_take (i := 38) (oi := ⟨some 59, .fieldAddr 25 (.tmp 3) 4, 0, "check.go:251", #[⟨37, .guard⟩], some (37, true)⟩) (v := undef) rfl (by kernel_rfl) (by kernel_rfl) (by kernel_rfl) (fun _ _ _ h => h) (Or.inr ⟨by rfl, rfl⟩) hHeld ?_
            try simp only [Act.put, List.setIfInBounds_toArray, List.set_cons_zero, List.set_cons_succ]
            refine wpAnyH_take (i := 39) (oi := ⟨some 60, .load 23 (.tmp 59), 23, "check.go:251", #[⟨38, .data⟩, ⟨37, .guard⟩], some (37, true)⟩) (v := undef) rfl (by kernel_rfl) (by kernel_rfl) (by kernel_rfl) (fun _ _ _ h => h) (Or.inr ⟨by rfl, rfl⟩) hHeld ?_
            try simp only [Act.put, List.setIfInBounds_toArray, List.set_cons_zero, List.set_cons_succ]
            refine wpAnyH_take (i := 40) (oi := ⟨some 61, .load 140 (.tmp 2), 140, "check.go:251", #[⟨37, .guard⟩], some (37, true)⟩) (v := undef) rfl (by kernel_rfl) (by kernel_rfl) (by kernel_rfl) (fun _ _ _ h => h) (Or.inr ⟨by rfl, rfl⟩) hHeld ?_
            try simp only [Act.put, List.setIfInBounds_toArray, List.set_cons_zero, List.set_cons_succ]
            refine wpAnyH_ready (rs := [41]) (by kernel_rfl) (by simp) ?_
            refine AllReadyH.cons (o := ⟨some 62, .call { callee := .value (.func 144), args := #[.tmp 61], argTypes := #[140] }, 140, "check.go:253", #[⟨40, .data⟩, ⟨37, .chain⟩, ⟨37, .guard⟩], some (37, true)⟩) rfl (fun K hK => ?_) AllReadyH.nil
            go_simp
            refine hK.out _ _ hHeld (fun _ => ?_)
            clear hK K
            try simp only [Act.put, List.setIfInBounds_toArray, List.set_cons_zero, List.set_cons_succ]
            refine wpAnyH_ready (rs := [42]) (by kernel_rfl) (by simp) ?_
            refine AllReadyH.cons (o := ⟨some 63, .makeFunc (.func 91) #[.tmp 62] #[], 40, "check.go:251", #[⟨41, .data⟩, ⟨37, .guard⟩], some (37, true)⟩) rfl (fun K hK => ?_) AllReadyH.nil
            go_simp
            refine hK.out _ _ hHeld (fun _ => ?_)
            clear hK K
            try simp only [Act.put, List.setIfInBounds_toArray, List.set_cons_zero, List.set_cons_succ]
            refine wpAnyH_ready (rs := [43]) (by kernel_rfl) (by simp) ?_
            refine AllReadyH.cons (o := ⟨some 64, .call { callee := .value (.func 143), args := #[.tmp 60, .tmp 63], argTypes := #[23, 40] }, 4, "check.go:253", #[⟨39, .data⟩, ⟨42, .data⟩, ⟨41, .chain⟩, ⟨37, .guard⟩], some (37, true)⟩) rfl (fun K hK => ?_) AllReadyH.nil
            go_simp
            refine hK.out _ _ hHeld (fun _ => ?_)
            clear hK K
            try simp only [Act.put, List.setIfInBounds_toArray, List.set_cons_zero, List.set_cons_succ]
            refine wpAnyH_take (i := 44) (oi := ⟨some 65, .pick (.tmp 58) (.tmp 64) (.const (.bool false)), 4, "check.go:251", #[⟨37, .data⟩, ⟨43, .data⟩], none⟩) (v := ?v44_77) rfl (by kernel_rfl) (by kernel_rfl) (by kernel_rfl) (fun _ _ _ h => h) (Or.inl ⟨by rfl, ?hy44_77⟩) hHeld ?rest44_77
            case hy44_77 => (intro W hSW; (try dsimp only at hSW); go_simp; try with_reducible rfl)
            try simp only [Act.put, List.setIfInBounds_toArray, List.set_cons_zero, List.set_cons_succ]
            refine wpAnyH_take (i := 45) (oi := ⟨some 4, .assign (.tmp 65), 4, "check.go:251", #[⟨44, .data⟩, ⟨43, .chain⟩, ⟨0, .phase⟩, ⟨1, .phase⟩, ⟨2, .phase⟩, ⟨3, .phase⟩, ⟨4, .phase⟩, ⟨5, .phase⟩, ⟨6, .phase⟩, ⟨7, .phase⟩, ⟨8, .phase⟩, ⟨9, .phase⟩, ⟨10, .phase⟩, ⟨11, .phase⟩, ⟨12, .phase⟩, ⟨13, .phase⟩, ⟨14, .phase⟩, ⟨15, .phase⟩, ⟨16, .phase⟩, ⟨17, .phase⟩, ⟨18, .phase⟩, ⟨19, .phase⟩, ⟨20, .phase⟩, ⟨21, .phase⟩, ⟨22, .phase⟩, ⟨23, .phase⟩, ⟨24, .phase⟩, ⟨25, .phase⟩, ⟨26, .phase⟩, ⟨27, .phase⟩, ⟨28, .phase⟩, ⟨29, .phase⟩, ⟨30, .phase⟩, ⟨31, .phase⟩, ⟨32, .phase⟩, ⟨33, .phase⟩, ⟨34, .phase⟩, ⟨35, .phase⟩, ⟨36, .phase⟩, ⟨37, .phase⟩, ⟨38, .phase⟩, ⟨39, .phase⟩, ⟨40, .phase⟩, ⟨41, .phase⟩, ⟨42, .phase⟩, ⟨43, .phase⟩, ⟨44, .phase⟩], none⟩) (v := ?v45_78) rfl (by kernel_rfl) (by kernel_rfl) (by kernel_rfl) (fun _ _ _ h => h) (Or.inl ⟨by rfl, ?hy45_78⟩) hHeld ?rest45_78
            case hy45_78 => (intro W hSW; (try dsimp only at hSW); go_simp; try with_reducible rfl)
            try simp only [Act.put, List.setIfInBounds_toArray, List.set_cons_zero, List.set_cons_succ]
            refine wpAnyH_done (by kernel_rfl) ?_ _
            have HS := Lib.hid hHeld
            clear hHeld
            go_wp2_with fail
            go_ret
            exact ⟨by rw [HO.out]; simp [*], HS.out.2.2.2.2.2.2.2.2.2.2.2⟩
          | true =>
            refine wpAnyH_ready (rs := [27]) (by kernel_rfl) (by simp) ?_
            refine AllReadyH.cons (o := ⟨some 48, .call { callee := .value (.func 142), args := #[.tmp 43, .tmp 45, .tmp 47], argTypes := #[140, 4, 9] }, 4, "check.go:252", #[⟨22, .data⟩, ⟨24, .data⟩, ⟨26, .data⟩, ⟨21, .chain⟩, ⟨21, .guard⟩], some (21, true)⟩) rfl (fun K hK => ?_) AllReadyH.nil
            go_simp
            go_at_call 142
            refine (N2.out _ hHeld).mono ?_
            rintro e w7 ⟨rfl, s7⟩
            clear hHeld
            have hHeld := s7
            clear s7
            refine hK.out _ _ hHeld (fun _ => ?_)
            clear hK K
            try simp only [Act.put, List.setIfInBounds_toArray, List.set_cons_zero, List.set_cons_succ]
            refine wpAnyH_take (i := 28) (oi := ⟨some 49, .pick (.tmp 42) (.tmp 48) (.const (.bool false)), 4, "check.go:251", #[⟨21, .data⟩, ⟨27, .data⟩], none⟩) (v := ?v28_79) rfl (by kernel_rfl) (by kernel_rfl) (by kernel_rfl) (fun _ _ _ h => h) (Or.inl ⟨by rfl, ?hy28_79⟩) hHeld ?rest28_79
            case hy28_79 => (intro W hSW; (try dsimp only at hSW); go_simp; try with_reducible rfl)
            try simp only [Act.put, List.setIfInBounds_toArray, List.set_cons_zero, List.set_cons_succ]
            refine wpAnyH_take (i := 29) (oi := ⟨some 50, .move (.tmp 49), 4, "check.go:251", #[⟨28, .data⟩, ⟨27, .chain⟩], none⟩) (v := ?v29_80) rfl (by kernel_rfl) (by kernel_rfl) (by kernel_rfl) (fun _ _ _ h => h) (Or.inl ⟨by rfl, ?hy29_80⟩) hHeld ?rest29_80
            case hy29_80 => (intro W hSW; (try dsimp only at hSW); go_simp; try with_reducible rfl)
            try simp only [Act.put, List.setIfInBounds_toArray, List.set_cons_zero, List.set_cons_succ]
            refine wpAnyH_take (i := 30) (oi := ⟨some 51, .fieldAddr 25 (.tmp 3) 4, 0, "check.go:251", #[⟨29, .guard⟩], some (29, true)⟩) (v := ?v30_81) rfl (by kernel_rfl) (by kernel_rfl) (by kernel_rfl) (fun _ _ _ h => h) (Or.inl ⟨by rfl, ?hy30_81⟩) hHeld ?rest30_81
            case hy30_81 => (intro W hSW; (try dsimp only at hSW); go_simp; try with_reducible rfl)
            try simp only [Act.put, List.setIfInBounds_toArray, List.set_cons_zero, List.set_cons_succ]
            refine wpAnyH_take (i := 31) (oi := ⟨some 52, .load 23 (.tmp 51), 23, "check.go:251", #[⟨30, .data⟩, ⟨29, .guard⟩], some (29, true)⟩) (v := ?v31_82) rfl (by kernel_rfl) (by kernel_rfl) (by kernel_rfl) (fun _ _ _ h => h) (Or.inl ⟨by rfl, ?hy31_82⟩) hHeld ?rest31_82
            case hy31_82 => (intro W hSW; (try dsimp only at hSW); go_simp; try with_reducible rfl)
            try simp only [Act.put, List.setIfInBounds_toArray, List.set_cons_zero, List.set_cons_succ]
            refine wpAnyH_take (i := 32) (oi := ⟨some 53, .call { callee := .builtin .len, args := #[.tmp 52], argTypes := #[23] }, 3, "check.go:251", #[⟨31, .data⟩, ⟨29, .guard⟩], some (29, true)⟩) (v := ?v32_83) rfl (by kernel_rfl) (by kernel_rfl) (by kernel_rfl) (fun _ _ _ h => h) (Or.inl ⟨by rfl, ?hy32_83⟩) hHeld ?rest32_83
            case hy32_83 => (intro W hSW; (try dsimp only at hSW); go_simp; try with_reducible rfl)
            try simp only [Act.put, List.setIfInBounds_toArray, List.set_cons_zero, List.set_cons_succ]
            refine wpAnyH_take (i := 33) (oi := ⟨some 54, .fieldAddr 188 (.tmp 5) 3, 0, "check.go:251", #[⟨29, .guard⟩], some (29, true)⟩) (v := ?v33_84) rfl (by kernel_rfl) (by kernel_rfl) (by kernel_rfl) (fun _ _ _ h => h) (Or.inl ⟨by rfl, ?hy33_84⟩) hHeld ?rest33_84
            case hy33_84 => (intro W hSW; (try dsimp only at hSW); go_simp; try with_reducible rfl)
            try simp only [Act.put, List.setIfInBounds_toArray, List.set_cons_zero, List.set_cons_succ]
            refine wpAnyH_take (i := 34) (oi := ⟨some 55, .load 3 (.tmp 54), 3, "check.go:251", #[⟨33, .data⟩, ⟨29, .guard⟩], some (29, true)⟩) (v := ?v34_85) rfl (by kernel_rfl) (by kernel_rfl) (by kernel_rfl) (fun _ _ _ h => h) (Or.inl ⟨by rfl, ?hy34_85⟩) hHeld ?rest34_85
            case hy34_85 => (intro W hSW; (try dsimp only at hSW); go_simp; try with_reducible rfl)
            try simp only [Act.put, List.setIfInBounds_toArray, List.set_cons_zero, List.set_cons_succ]
            cases hln : (((l.length : Nat) : Int) == fo) with
            | false =>
              refine wpAnyH_take (i := 35) (oi := ⟨some 56, .binOp .eql 3 (.tmp 53) (.tmp 55) 3, 4, "check.go:251", #[⟨32, .data⟩, ⟨34, .data⟩, ⟨29, .guard⟩], some (29, true)⟩) (v := ?v35_86) rfl (by kernel_rfl) (by kernel_rfl) (by kernel_rfl) (fun _ _ _ h => h) (Or.inl ⟨by rfl, ?hy35_86⟩) hHeld ?rest35_86
              case hy35_86 => (intro W hSW; (try dsimp only at hSW); go_simp; try with_reducible rfl)
              try simp only [Act.put, List.setIfInBounds_toArray, List.set_cons_zero, List.set_cons_succ]
              refine wpAnyH_take (i := 36) (oi := ⟨some 57, .pick (.tmp 50) (.tmp 56) (.const (.bool false)), 4, "check.go:251", #[⟨29, .data⟩, ⟨35, .data⟩], none⟩) (v := ?v36_87) rfl (by kernel_rfl) (by kernel_rfl) (by kernel_rfl) (fun _ _ _ h => h) (Or.inl ⟨by rfl, ?hy36_87⟩) hHeld ?rest36_87
              case hy36_87 => (intro W hSW; (try dsimp only at hSW); go_simp; try with_reducible rfl)
              try simp only [Act.put, List.setIfInBounds_toArray, List.set_cons_zero, List.set_cons_succ]
              refine wpAnyH_take (i := 37) (oi := ⟨some 58, .move (.tmp 57), 4, "check.go:251", #[⟨36, .data⟩, ⟨29, .chain⟩], none⟩) (v := ?v37_88) rfl (by kernel_rfl) (by kernel_rfl) (by kernel_rfl) (fun _ _ _ h => h) (Or.inl ⟨by rfl, ?hy37_88⟩) hHeld ?rest37_88
              case hy37_88 => (intro W hSW; (try dsimp only at hSW); go_simp; try with_reducible rfl)
              try simp only [Act.put, List.setIfInBounds_toArray, List.set_cons_zero, List.set_cons_succ]
              refine wpAnyH_take (i := 38) (oi := ⟨some 59, .fieldAddr 25 (.tmp 3) 4, 0, "check.go:251", #[⟨37, .guard⟩], some (37, true)⟩) (v := undef) rfl (by kernel_rfl) (by kernel_rfl) (by kernel_rfl) (fun _ _ _ h => h) (Or.inr ⟨by rfl, rfl⟩) hHeld ?_
              try simp only [Act.put, List.setIfInBounds_toArray, List.set_cons_zero, List.set_cons_succ]
              refine wpAnyH_take (i := 39) (oi := ⟨some 60, .load 23 (.tmp 59), 23, "check.go:251", #[⟨38, .data⟩, ⟨37, .guard⟩], some (37, true)⟩) (v := undef) rfl (by kernel_rfl) (by kernel_rfl) (by kernel_rfl) (fun _ _ _ h => h) (Or.inr ⟨by rfl, rfl⟩) hHeld ?_
              try simp only [Act.put, List.setIfInBounds_toArray, List.set_cons_zero, List.set_cons_succ]
              refine wpAnyH_take (i := 40) (oi := ⟨some 61, .load 140 (.tmp 2), 140, "check.go:251", #[⟨37, .guard⟩], some (37, true)⟩) (v := undef) rfl (by kernel_rfl) (by kernel_rfl) (by kernel_rfl) (fun _ _ _ h => h) (Or.inr ⟨by rfl, rfl⟩) hHeld ?_
              try simp only [Act.put, List.setIfInBounds_toArray, List.set_cons_zero, List.set_cons_succ]
              refine wpAnyH_ready (rs := [41]) (by kernel_rfl) (by simp) ?_
              refine AllReadyH.cons (o := ⟨some 62, .call { callee := .value (.func 144), args := #[.tmp 61], argTypes := #[140] }, 140, "check.go:253", #[⟨40, .data⟩, ⟨37, .chain⟩, ⟨37, .guard⟩], some (37, true)⟩) rfl (fun K hK => ?_) AllReadyH.nil
              go_simp
              refine hK.out _ _ hHeld (fun _ => ?_)
              clear hK K
              try simp only [Act.put, List.setIfInBounds_toArray, List.set_cons_zero, List.set_cons_succ]
              refine wpAnyH_ready (rs := [42]) (by kernel_rfl) (by simp) ?_
              refine AllReadyH.cons (o := ⟨some 63, .makeFunc (.func 91) #[.tmp 62] #[], 40, "check.go:251", #[⟨41, .data⟩, ⟨37, .guard⟩], some (37, true)⟩) rfl (fun K hK => ?_) AllReadyH.nil
              go_simp
              refine hK.out _ _ hHeld (fun _ => ?_)
              clear hK K
              try simp only [Act.put, List.setIfInBounds_toArray, List.set_cons_zero, List.set_cons_succ]
              refine wpAnyH_ready (rs := [43]) (by kernel_rfl) (by simp) ?_
              refine AllReadyH.cons (o := ⟨some 64, .call { callee := .value (.func 143), args := #[.tmp 60, .tmp 63], argTypes := #[23, 40] }, 4, "check.go:253", #[⟨39, .data⟩, ⟨42, .data⟩, ⟨41, .chain⟩, ⟨37, .guard⟩], some (37, true)⟩) rfl (fun K hK => ?_) AllReadyH.nil
              go_simp
              refine hK.out _ _ hHeld (fun _ => ?_)
              clear hK K
              try simp only [Act.put, List.setIfInBounds_toArray, List.set_cons_zero, List.set_cons_succ]
              refine wpAnyH_take (i := 44) (oi := ⟨some 65, .pick (.tmp 58) (.tmp 64) (.const (.bool false)), 4, "check.go:251", #[⟨37, .data⟩, ⟨43, .data⟩], none⟩) (v := ?v44_89) rfl (by kernel_rfl) (by kernel_rfl) (by kernel_rfl) (fun _ _ _ h => h) (Or.inl ⟨by rfl, ?hy44_89⟩) hHeld ?rest44_89
              case hy44_89 => (intro W hSW; (try dsimp only at hSW); go_simp; try with_reducible rfl)
              try simp only [Act.put, List.setIfInBounds_toArray, List.set_cons_zero, List.set_cons_succ]
              refine wpAnyH_take (i := 45) (oi := ⟨some 4, .assign (.tmp 65), 4, "check.go:251", #[⟨44, .data⟩, ⟨43, .chain⟩, ⟨0, .phase⟩, ⟨1, .phase⟩, ⟨2, .phase⟩, ⟨3, .phase⟩, ⟨4, .phase⟩, ⟨5, .phase⟩, ⟨6, .phase⟩, ⟨7, .phase⟩, ⟨8, .phase⟩, ⟨9, .phase⟩, ⟨10, .phase⟩, ⟨11, .phase⟩, ⟨12, .phase⟩, ⟨13, .phase⟩, ⟨14, .phase⟩, ⟨15, .phase⟩, ⟨16, .phase⟩, ⟨17, .phase⟩, ⟨18, .phase⟩, ⟨19, .phase⟩, ⟨20, .phase⟩, ⟨21, .phase⟩, ⟨22, .phase⟩, ⟨23, .phase⟩, ⟨24, .phase⟩, ⟨25, .phase⟩, ⟨26, .phase⟩, ⟨27, .phase⟩, ⟨28, .phase⟩, ⟨29, .phase⟩, ⟨30, .phase⟩, ⟨31, .phase⟩, ⟨32, .phase⟩, ⟨33, .phase⟩, ⟨34, .phase⟩, ⟨35, .phase⟩, ⟨36, .phase⟩, ⟨37, .phase⟩, ⟨38, .phase⟩, ⟨39, .phase⟩, ⟨40, .phase⟩, ⟨41, .phase⟩, ⟨42, .phase⟩, ⟨43, .phase⟩, ⟨44, .phase⟩], none⟩) (v := ?v45_90) rfl (by kernel_rfl) (by kernel_rfl) (by kernel_rfl) (fun _ _ _ h => h) (Or.inl ⟨by rfl, ?hy45_90⟩) hHeld ?rest45_90
              case hy45_90 => (intro W hSW; (try dsimp only at hSW); go_simp; try with_reducible rfl)
              try simp only [Act.put, List.setIfInBounds_toArray, List.set_cons_zero, List.set_cons_succ]
              refine wpAnyH_done (by kernel_rfl) ?_ _
              have HS := Lib.hid hHeld
              clear hHeld
              go_wp2_with fail
              go_ret
              exact ⟨by rw [HO.out]; simp [*], HS.out.2.2.2.2.2.2.2.2.2.2.2⟩
            | true =>
              refine wpAnyH_take (i := 35) (oi := ⟨some 56, .binOp .eql 3 (.tmp 53) (.tmp 55) 3, 4, "check.go:251", #[⟨32, .data⟩, ⟨34, .data⟩, ⟨29, .guard⟩], some (29, true)⟩) (v := ?v35_91) rfl (by kernel_rfl) (by kernel_rfl) (by kernel_rfl) (fun _ _ _ h => h) (Or.inl ⟨by rfl, ?hy35_91⟩) hHeld ?rest35_91
              case hy35_91 => (intro W hSW; (try dsimp only at hSW); go_simp; try with_reducible rfl)
              try simp only [Act.put, List.setIfInBounds_toArray, List.set_cons_zero, List.set_cons_succ]
              refine wpAnyH_take (i := 36) (oi := ⟨some 57, .pick (.tmp 50) (.tmp 56) (.const (.bool false)), 4, "check.go:251", #[⟨29, .data⟩, ⟨35, .data⟩], none⟩) (v := ?v36_92) rfl (by kernel_rfl) (by kernel_rfl) (by kernel_rfl) (fun _ _ _ h => h) (Or.inl ⟨by rfl, ?hy36_92⟩) hHeld ?rest36_92
              case hy36_92 => (intro W hSW; (try dsimp only at hSW); go_simp; try with_reducible rfl)
              try simp only [Act.put, List.setIfInBounds_toArray, List.set_cons_zero, List.set_cons_succ]
              refine wpAnyH_take (i := 37) (oi := ⟨some 58, .move (.tmp 57), 4, "check.go:251", #[⟨36, .data⟩, ⟨29, .chain⟩], none⟩) (v := ?v37_93) rfl (by kernel_rfl) (by kernel_rfl) (by kernel_rfl) (fun _ _ _ h => h) (Or.inl ⟨by rfl, ?hy37_93⟩) hHeld ?rest37_93
              case hy37_93 => (intro W hSW; (try dsimp only at hSW); go_simp; try with_reducible rfl)
              try simp only [Act.put, List.setIfInBounds_toArray, List.set_cons_zero, List.set_cons_succ]
              refine wpAnyH_take (i := 38) (oi := ⟨some 59, .fieldAddr 25 (.tmp 3) 4, 0, "check.go:251", #[⟨37, .guard⟩], some (37, true)⟩) (v := ?v38_94) rfl (by kernel_rfl) (by kernel_rfl) (by kernel_rfl) (fun _ _ _ h => h) (Or.inl ⟨by rfl, ?hy38_94⟩) hHeld ?rest38_94
              case hy38_94 => (intro W hSW; (try dsimp only at hSW); go_simp; try with_reducible rfl)
              try simp only [Act.put, List.setIfInBounds_toArray, List.set_cons_zero, List.set_cons_succ]
              refine wpAnyH_take (i := 39) (oi := ⟨some 60, .load 23 (.tmp 59), 23, "check.go:251", #[⟨38, .data⟩, ⟨37, .guard⟩], some (37, true)⟩) (v := ?v39_95) rfl (by kernel_rfl) (by kernel_rfl) (by kernel_rfl) (fun _ _ _ h => h) (Or.inl ⟨by rfl, ?hy39_95⟩) hHeld ?rest39_95
              case hy39_95 => (intro W hSW; (try dsimp only at hSW); go_simp; try with_reducible rfl)
              try simp only [Act.put, List.setIfInBounds_toArray, List.set_cons_zero, List.set_cons_succ]
              refine wpAnyH_take (i := 40) (oi := ⟨some 61, .load 140 (.tmp 2), 140, "check.go:251", #[⟨37, .guard⟩], some (37, true)⟩) (v := ?v40_96) rfl (by kernel_rfl) (by kernel_rfl) (by kernel_rfl) (fun _ _ _ h => h) (Or.inl ⟨by rfl, ?hy40_96⟩) hHeld ?rest40_96
              case hy40_96 => (intro W hSW; (try dsimp only at hSW); go_simp; try with_reducible rfl)
              try simp only [Act.put, List.setIfInBounds_toArray, List.set_cons_zero, List.set_cons_succ]
              refine wpAnyH_ready (rs := [41]) (by kernel_rfl) (by simp) ?_
              refine AllReadyH.cons (o := ⟨some 62, .call { callee := .value (.func 144), args := #[.tmp 61], argTypes := #[140] }, 140, "check.go:253", #[⟨40, .data⟩, ⟨37, .chain⟩, ⟨37, .guard⟩], some (37, true)⟩) rfl (fun K hK => ?_) AllReadyH.nil
              go_simp
              go_at_call 144
              refine (DP.out _ hHeld).mono ?_
              rintro e w7 ⟨rfl, s7⟩
              clear hHeld
              have hHeld := s7
              clear s7
              refine hK.out _ _ hHeld (fun _ => ?_)
              clear hK K
              try simp only [Act.put, List.setIfInBounds_toArray, List.set_cons_zero, List.set_cons_succ]
              refine wpAnyH_ready (rs := [42]) (by kernel_rfl) (by simp) ?_
              refine AllReadyH.cons (o := ⟨some 63, .makeFunc (.func 91) #[.tmp 62] #[], 40, "check.go:251", #[⟨41, .data⟩, ⟨37, .guard⟩], some (37, true)⟩) rfl (fun K hK => ?_) AllReadyH.nil
              go_simp
              refine hK.out _ _ hHeld (fun _ => ?_)
              clear hK K
              try simp only [Act.put, List.setIfInBounds_toArray, List.set_cons_zero, List.set_cons_succ]
              refine wpAnyH_ready (rs := [43]) (by kernel_rfl) (by simp) ?_
              refine AllReadyH.cons (o := ⟨some 64, .call { callee := .value (.func 143), args := #[.tmp 60, .tmp 63], argTypes := #[23, 40] }, 4, "check.go:253", #[⟨39, .data⟩, ⟨42, .data⟩, ⟨41, .chain⟩, ⟨37, .guard⟩], some (37, true)⟩) rfl (fun K hK => ?_) AllReadyH.nil
              go_simp
              go_at_call 143
              refine (AL.out _ hHeld).mono ?_
              rintro e w7 ⟨rfl, s7⟩
              clear hHeld
              have hHeld := s7
              clear s7
              refine hK.out _ _ hHeld (fun _ => ?_)
              clear hK K
              try simp only [Act.put, List.setIfInBounds_toArray, List.set_cons_zero, List.set_cons_succ]
              refine wpAnyH_take (i := 44) (oi := ⟨some 65, .pick (.tmp 58) (.tmp 64) (.const (.bool false)), 4, "check.go:251", #[⟨37, .data⟩, ⟨43, .data⟩], none⟩) (v := ?v44_97) rfl (by kernel_rfl) (by kernel_rfl) (by kernel_rfl) (fun _ _ _ h => h) (Or.inl ⟨by rfl, ?hy44_97⟩) hHeld ?rest44_97
              case hy44_97 => (intro W hSW; (try dsimp only at hSW); go_simp; try with_reducible rfl)
              try simp only [Act.put, List.setIfInBounds_toArray, List.set_cons_zero, List.set_cons_succ]
              refine wpAnyH_take (i := 45) (oi := ⟨some 4, .assign (.tmp 65), 4, "check.go:251", #[⟨44, .data⟩, ⟨43, .chain⟩, ⟨0, .phase⟩, ⟨1, .phase⟩, ⟨2, .phase⟩, ⟨3, .phase⟩, ⟨4, .phase⟩, ⟨5, .phase⟩, ⟨6, .phase⟩, ⟨7, .phase⟩, ⟨8, .phase⟩, ⟨9, .phase⟩, ⟨10, .phase⟩, ⟨11, .phase⟩, ⟨12, .phase⟩, ⟨13, .phase⟩, ⟨14, .phase⟩, ⟨15, .phase⟩, ⟨16, .phase⟩, ⟨17, .phase⟩, ⟨18, .phase⟩, ⟨19, .phase⟩, ⟨20, .phase⟩, ⟨21, .phase⟩, ⟨22, .phase⟩, ⟨23, .phase⟩, ⟨24, .phase⟩, ⟨25, .phase⟩, ⟨26, .phase⟩, ⟨27, .phase⟩, ⟨28, .phase⟩, ⟨29, .phase⟩, ⟨30, .phase⟩, ⟨31, .phase⟩, ⟨32, .phase⟩, ⟨33, .phase⟩, ⟨34, .phase⟩, ⟨35, .phase⟩, ⟨36, .phase⟩, ⟨37, .phase⟩, ⟨38, .phase⟩, ⟨39, .phase⟩, ⟨40, .phase⟩, ⟨41, .phase⟩, ⟨42, .phase⟩, ⟨43, .phase⟩, ⟨44, .phase⟩], none⟩) (v := ?v45_98) rfl (by kernel_rfl) (by kernel_rfl) (by kernel_rfl) (fun _ _ _ h => h) (Or.inl ⟨by rfl, ?hy45_98⟩) hHeld ?rest45_98
              case hy45_98 => (intro W hSW; (try dsimp only at hSW); go_simp; try with_reducible rfl)
              try simp only [Act.put, List.setIfInBounds_toArray, List.set_cons_zero, List.set_cons_succ]
              refine wpAnyH_done (by kernel_rfl) ?_ _
              have HS := Lib.hid hHeld
              clear hHeld
              go_wp2_with fail
              go_ret
              exact ⟨by rw [HO.out]; simp [*], HS.out.2.2.2.2.2.2.2.2.2.2.2⟩
end Go.Proofs.YtpcldpnaljheoaaGreatDoor
end
section
namespace Go.Proofs.YtpcldpnaljheoaaGreatDoor
open Go.RowKit Go.Deep

/-- The reader's block, all below B, and boxes from b on. -/
def Bx (p B b k : Nat) : Prop := k = p ∨ k < B ∨ (b ≤ k ∧ k < b + 3)
/-- The row's loop: its boxes, what has been read. -/
structure RwI (p g cap : Nat) (ts : List Tok) (f x y z : Int) (B b : Nat) (e : List D) (s : RS) (w W : World) : Prop where
  did : Did p g cap ts s w W
  gl : Gl p W
  bx : W.heap[b]? = some (.cells (xC p f x y z) 92)
  br : W.heap[b + 2]? = some (.cells (exC 0 0 ⟨#[]⟩ ⟨#[]⟩ none 0 0) 25)
  be : ∃ op n nm fd a len c, W.heap[b + 1]? = some (.cells (exC op n nm fd a len c) 25) ∧ ExAt (Mk (Bx p B b) W) e op n nm fd a len c
  nb : b ≠ p ∧ b + 1 ≠ p ∧ b + 2 ≠ p
theorem RwI.next {p g cap : Nat} {ts : List Tok} {f x y z : Int} {B b : Nat} {e : List D} {s s1 : RS} {w W W1 : World} (h : RwI p g cap ts f x y z B b e s w W) (d : Did p g cap ts s1 W W1) : RwI p g cap ts f x y z B b e s1 w W1 := by
  obtain ⟨op, n, nm, fd, a, len, c, h1, h2⟩ := h.be
  exact ⟨h.did.trans d, h.gl.onl d.onl, (d.onl.block _ h.nb.1 (heap_lt h.bx)).trans h.bx, (d.onl.block _ h.nb.2.2 (heap_lt h.br)).trans h.br,
    ⟨op, n, nm, fd, a, len, c, (d.onl.block _ h.nb.2.1 (heap_lt h1)).trans h1, h2.sub (mk_onl (.inl rfl) d.onl)⟩, h.nb⟩
theorem RwI.drew {p g cap : Nat} {ts : List Tok} {f x y z : Int} {B b : Nat} {e : List D} {s : RS} {w W : World} (h : RwI p g cap ts f x y z B b e s w W) : RwI p g cap ts f x y z B b e s w W.drew := h.next (Did.of h.did.rd (below_drew0 (Below.refl _ _)))
theorem heap_set5 (W : World) (b k : Nat) (hk : k ≠ b) (v0 v1 v2 v3 v4 : Value) : (((((W.setCell ⟨b, 0, none⟩ v0).setCell ⟨b, 1, none⟩ v1).setCell ⟨b, 2, none⟩ v2).setCell ⟨b, 3, none⟩ v3).setCell ⟨b, 4, none⟩ v4).heap[k]? = W.heap[k]? := by
  rw [Below.heap_setCell _ _ _ _ hk, Below.heap_setCell _ _ _ _ hk, Below.heap_setCell _ _ _ _ hk, Below.heap_setCell _ _ _ _ hk, Below.heap_setCell _ _ _ _ hk]
theorem RwI.push {p g cap : Nat} {ts : List Tok} {f x y z : Int} {B b : Nat} {e : List D} {s : RS} {w W5 w6 : World} (I : RwI p g cap ts f x y z B b e s w W5) (hp : p < w.heap.size) (hg : g < w.heap.size) (hb : w.heap.size ≤ b) (hBb : B ≤ b)
    {op1 k1 : Int} {nm1 fd1 : ByteArray} {a1 : Option Addr} {len1 c1 : Nat} (hbe : W5.heap[b + 1]? = some (.cells (exC op1 k1 nm1 fd1 a1 len1 c1) 25)) (hex : ExAt (Mk (Bx p B b) W5) e op1 k1 nm1 fd1 a1 len1 c1)
    {u : List D} {C : Nat} {op5 k5 : Int} {nm5 fd5 : ByteArray} {a5 : Option Addr} {len5 c5 : Nat} (hu : ExAt (Mk (Bd p C) W5) u op5 k5 nm5 fd5 a5 len5 c5) (hC : b + 3 ≤ C)
    (b6 : Below (W5.alloc (.cells #[.int .i64 op1, .int .i64 k1, .string nm1, .string fd1, .slice a1 len1 c1, .int .i64 op5, .int .i64 k5, .string nm5, .string fd5, .slice a5 len5 c5] 25)).heap.size (W5.alloc (.cells #[.int .i64 op1, .int .i64 k1, .string nm1, .string fd1, .slice a1 len1 c1, .int .i64 op5, .int .i64 k5, .string nm5, .string fd5, .slice a5 len5 c5] 25)) w6)
    {o : Nat} (ho : o ≤ 100) :
    RwI p g cap ts f x y z B b (mkE (o : Int) 0 noB noB [e, u]) s w (((((w6.setCell ⟨b + 1, 0, none⟩ (.int .i64 (o : Nat))).setCell ⟨b + 1, 1, none⟩ (.int .i64 0)).setCell ⟨b + 1, 2, none⟩ (.string noB)).setCell ⟨b + 1, 3, none⟩ (.string noB)).setCell ⟨b + 1, 4, none⟩ (.slice (some ⟨W5.heap.size, 0, none⟩) 2 2)) := by
  have b7 : Below W5.heap.size W5 w6 := ((Below.refl W5.heap.size W5).alloc (Nat.le_refl _) _).trans (b6.mono (by simp))
  have hrow : w6.heap[W5.heap.size]? = _ := (b6.block _ (by simp)).trans (heap_new W5 _)
  have h5 := heap_lt I.br
  have hn := I.nb
  have hbe6 := (b7.block _ (heap_lt hbe)).trans hbe
  have hpW := I.did.rd.lt
  have S6 : Sub (Mk (Bx p B b) W5) (Mk (Bx p B b) w6) := mk_step b7.size fun k hk _ => b7.block k hk
  have hrw := row2_at (P := Bx p B b) (vs := [.int .i64 op1, .int .i64 k1, .string nm1, .string fd1, .slice a1 len1 c1]) (us := [.int .i64 op5, .int .i64 k5, .string nm5, .string fd5, .slice a5 len5 c5]) hrow
    (by rintro (h | h | h) <;> omega) rfl (hex.sub S6).1 ((hu.sub (mk_weak W5 (P' := Bx p B b) (by rintro k (h | h | h); exact .inl h; exact .inr (by omega); exact .inr (by omega)))).sub S6).1
  have hE := ExAt.over (op := (o : Int)) (n := 0) (nm := noB) (fd := noB) hrw (by
    intro z hz
    rcases List.mem_cons.1 hz with rfl | hz
    · exact hex.2
    · obtain rfl := List.mem_singleton.1 hz
      exact hu.2) (by omega) (by omega) (by omega) (by omega) (by decide) (by decide)
  have hm : ∀ W : World, ∀ o : Nat, ∀ v : Value, Sub (Mk (Bx p B b) W) (Mk (Bx p B b) (W.setCell ⟨b + 1, o, none⟩ v)) := fun W o v => mk_set (.inr (.inr ⟨by omega, by omega⟩)) W v
  refine ⟨((((((I.did.below b7).own hp hg (by omega) (q := b + 1) (o := 0) (.int .i64 (o : Nat))).own hp hg (by omega) (q := b + 1) (o := 1) (.int .i64 0)).own hp hg (by omega) (q := b + 1) (o := 2) (.string noB)).own hp hg (by omega) (q := b + 1) (o := 3) (.string noB)).own hp hg (by omega) (q := b + 1) (o := 4) (.slice (some ⟨W5.heap.size, 0, none⟩) 2 2)),
    ((((((I.gl.onl (Onl.of b7 (Nat.le_refl _))).set (b := b + 1) (by omega) _).set (b := b + 1) (by omega) _).set (b := b + 1) (by omega) _).set (b := b + 1) (by omega) _).set (b := b + 1) (by omega) _),
    (heap_set5 _ _ _ (by omega) _ _ _ _ _).trans ((b7.block _ (heap_lt I.bx)).trans I.bx), (heap_set5 _ _ _ (by omega) _ _ _ _ _).trans ((b7.block _ (heap_lt I.br)).trans I.br),
    ⟨_, _, _, _, _, _, _, (heap_setC (o := 4) (heap_setC (o := 3) (heap_setC (o := 2) (heap_setC (o := 1) (heap_setC (o := 0) hbe6 (.int .i64 (o : Nat))) (.int .i64 0)) (.string noB)) (.string noB)) (.slice (some ⟨W5.heap.size, 0, none⟩) 2 2)), (((((hE.sub (hm _ _ _)).sub (hm _ _ _)).sub (hm _ _ _)).sub (hm _ _ _)).sub (hm _ _ _))⟩, I.nb⟩
set_option maxRecDepth 100000 in
set_option maxHeartbeats 2000000 in
theorem row_any {p g cap : Nat} {ts : List Tok} {f x y z : Int} {q : Nat} {F : RS → XS} {n : Nat} (hF : Ok p g cap ts f x y z q F n) (hq : q = 167 ∨ q = 133)
    {s : RS} {w : World} (h : RdAt p g cap ts s w) (hG : Gl p w) (hn : leftS ts s < n) {a : Option Addr} {len c : Nat} {ss : List ByteArray} (hS : StrsAt p w.heap.size w a len c ss)
    {e : List D} {op k : Int} {nm fd : ByteArray} {ea : Option Addr} {el ec : Nat} {B : Nat} (hB : B ≤ w.heap.size) (he : ExAt (Mk (Bd p B) w) e op k nm fd ea el ec) :
    Calls Tryz.prog 131 #[xV p f x y z, exV op k nm fd ea el ec, .func (.func q) #[] #[], .slice a len c] w (XPost p g cap ts (rowP ts ss F (ts.length + 1) e s) B w) := by
  have B0 := (((Below.refl w.heap.size w).alloc (Nat.le_refl _) (.cells (xC p f x y z) 92)).alloc (by simp) (.cells (exC op k nm fd ea el ec) 25)).alloc (by simp; omega) (.cells (exC 0 0 ⟨#[]⟩ ⟨#[]⟩ none 0 0) 25)
  have O0 : Onl p w _ := Onl.of B0 (Nat.le_refl _)
  have hpl := h.lt
  have hgl := h.toks.lt
  have I0 := Lib.hid (show RwI p g cap ts f x y z B w.heap.size e s w (((w.alloc (.cells (xC p f x y z) 92)).alloc (.cells (exC op k nm fd ea el ec) 25)).alloc (.cells (exC 0 0 ⟨#[]⟩ ⟨#[]⟩ none 0 0) 25)) from
    ⟨Did.of h B0, hG.onl O0, by
      have e1 := heap_new w (.cells (xC p f x y z) 92)
      have e2 := (((Below.refl (w.heap.size + 1) (w.alloc (.cells (xC p f x y z) 92))).alloc (by simp) (.cells (exC op k nm fd ea el ec) 25)).alloc (by simp) (.cells (exC 0 0 ⟨#[]⟩ ⟨#[]⟩ none 0 0) 25)).block w.heap.size (by omega)
      exact e2.trans e1, by
      have e1 := heap_new ((w.alloc (.cells (xC p f x y z) 92)).alloc (.cells (exC op k nm fd ea el ec) 25)) (.cells (exC 0 0 ⟨#[]⟩ ⟨#[]⟩ none 0 0) 25)
      simpa using e1, ⟨op, k, nm, fd, ea, el, ec, by
      have e1 := heap_new (w.alloc (.cells (xC p f x y z) 92)) (.cells (exC op k nm fd ea el ec) 25)
      have e2 := ((Below.refl (w.heap.size + 2) ((w.alloc (.cells (xC p f x y z) 92)).alloc (.cells (exC op k nm fd ea el ec) 25))).alloc (by simp) (.cells (exC 0 0 ⟨#[]⟩ ⟨#[]⟩ none 0 0) 25)).block (w.heap.size + 1) (by omega)
      exact e2.trans (by simpa using e1), he.sub (sub_of_blocks B0.size _ _ fun k hk hn => ⟨fun h3 => by rcases h3 with h3 | h3 | h3; exact hn (.inl h3); exact hn (.inr h3); omega, B0.block k hk⟩)⟩, by omega, by omega, by omega⟩)
  have S0 := Lib.hid (hS.onl O0)
  have hlen := h.ok.len
  have hle : leftS ts s < ts.length + 1 := by
    unfold leftS
    split <;> omega
  generalize hR : rowP ts ss F (ts.length + 1) e s = R
  have HR := Lib.hid hR
  have HF := Lib.hid hF
  clear h hG hS he hR hF B0 O0
  go_enter Tryz.func131, Tryz.ntmps131
  go_wp2_with fail
  generalize ((w.alloc (.cells (xC p f x y z) 92)).alloc (.cells (exC op k nm fd ea el ec) 25)).alloc (.cells (exC 0 0 ⟨#[]⟩ ⟨#[]⟩ none 0 0) 25) = W0 at I0 S0 ⊢
  go_loopw [9] (fun v wr => ∃ (m : Nat) (e' : List D) (s' : RS), RwI p g cap ts f x y z B w.heap.size e' s' w wr ∧ StrsAt p w.heap.size wr a len c ss ∧ leftS ts s' < m ∧ leftS ts s' < n ∧ rowP ts ss F m e' s' = R) (fun _ wr => leftW ts p wr)
  case atStart => exact ⟨_, e, s, I0.out, S0.out, hle, hn, HR.out⟩
  case round =>
    obtain ⟨m, e', s', hI, hSt, hm, hn', hr⟩ := hrel
    have I := Lib.hid hI
    have ST := Lib.hid hSt
    have HR' := Lib.hid hr
    have HO := Lib.hid (operation_any hI.did.rd hI.gl hSt.is f x y z)
    have hbx := box_cells hI.bx
    have hlx := heap_lt hI.bx
    have hpw := hI.did.rd.lt
    clear hI hSt hr
    obtain ⟨m, rfl⟩ : ∃ m', m = m' + 1 := ⟨m - 1, by omega⟩
    go_wp2_with fail
    refine HO.out.mono ?_
    rintro e1 w1 ⟨rfl, d1⟩
    clear HO
    have I1 := Lib.hid (I.out.next d1)
    have ST1 := Lib.hid (ST.out.onl d1.onl)
    clear d1
    by_cases h0 : (opP ts s' ss).1 = 0
    · obtain rfl : R = (e', (opP ts s' ss).2) := by rw [← HR'.out]; unfold rowP; rw [if_pos h0]
      have d0 : (((opP ts s' ss).1 : Int) == 0) = true := by simp [h0]
      obtain ⟨op1, k1, nm1, fd1, a1, len1, c1, hbe, hex⟩ := I1.out.be
      have HX := Lib.hid hex
      have cbe := box_cells hbe
      have lbe := heap_lt hbe
      have cbr := box_cells I1.out.br
      have kf0 : ∀ o, w1.frozen? ⟨w.heap.size + 2, o, none⟩ = false := fun o => by simp [World.frozen?, I1.out.br]
      have KF := Lib.hid (heap_setC (o := 4) (heap_setC (o := 3) (heap_setC (o := 2) (heap_setC (o := 1) (heap_setC (o := 0) I1.out.br (.int .i64 op1)) (.int .i64 k1)) (.string nm1)) (.string fd1)) (.slice a1 len1 c1))
      have DF := Lib.hid (((((I1.out.did.own hpl hgl (by omega) (q := w.heap.size + 2) (o := 0) (.int .i64 op1)).own hpl hgl (by omega) (q := w.heap.size + 2) (o := 1) (.int .i64 k1)).own hpl hgl (by omega) (q := w.heap.size + 2) (o := 2) (.string nm1)).own hpl hgl (by omega) (q := w.heap.size + 2) (o := 3) (.string fd1)).own hpl hgl (by omega) (q := w.heap.size + 2) (o := 4) (.slice a1 len1 c1))
      have SF := Lib.hid ((((((HX.out.sub (mk_set (b := w.heap.size + 2) (.inr (.inr ⟨by omega, by omega⟩)) _ _)).sub (mk_set (b := w.heap.size + 2) (.inr (.inr ⟨by omega, by omega⟩)) _ _)).sub (mk_set (b := w.heap.size + 2) (.inr (.inr ⟨by omega, by omega⟩)) _ _)).sub (mk_set (b := w.heap.size + 2) (.inr (.inr ⟨by omega, by omega⟩)) _ _)).sub (mk_set (b := w.heap.size + 2) (.inr (.inr ⟨by omega, by omega⟩)) _ _)).sub (mk_weak (P' := Bd p B) (((((w1.setCell ⟨w.heap.size + 2, 0, none⟩ (.int .i64 op1)).setCell ⟨w.heap.size + 2, 1, none⟩ (.int .i64 k1)).setCell ⟨w.heap.size + 2, 2, none⟩ (.string nm1)).setCell ⟨w.heap.size + 2, 3, none⟩ (.string fd1)).setCell ⟨w.heap.size + 2, 4, none⟩ (.slice a1 len1 c1)) (fun k hk => by rcases hk with hk | hk; exact .inl hk; exact .inr (.inl hk))))
      clear hbe hex h0
      go_wp2_with fail
      exact bodyPost_ret (v := exV op1 k1 nm1 fd1 a1 len1 c1) (results_cell (i := 8) (b := w.heap.size + 2) Tryz.results131 Tryz.isAgg25 Tryz.sizeOf25 rfl rfl KF.out) rfl ⟨_, _, _, _, _, _, _, rfl, SF.out, DF.out⟩
    · have d0 : (((opP ts s' ss).1 : Int) == 0) = false := by simp; omega
      have hlt1 : leftS ts (opP ts s' ss).2 < n := Nat.lt_of_lt_of_le (left_opP_lt h0) (by omega)
      have hlt2 := left_opP_lt h0
      have hop := opP_le ts s' ss
      have HR2 := Lib.hid (show rowP ts ss F m (mkE ((opP ts s' ss).1 : Nat) 0 noB noB [e', (F (opP ts s' ss).2).1]) (F (opP ts s' ss).2).2 = R by rw [← HR'.out]; conv => rhs; unfold rowP; rw [if_neg h0])
      have hmo := HF.out.mono (opP ts s' ss).2
      have HFc := Lib.hid (fun W (RR : RdAt p g cap ts (opP ts s' ss).2 W) (G : Gl p W) => HF.out.call _ W RR G hlt1)
      obtain ⟨op1, k1, nm1, fd1, a1, len1, c1, hbe, hex⟩ := I1.out.be
      have HX := Lib.hid hex
      have HBE := Lib.hid hbe
      have HBX := Lib.hid I1.out.bx
      clear hex hbe h0 HR'
      generalize (opP ts s' ss).2 = s1 at *
      generalize (opP ts s' ss).1 = o at *
      have hbx1 := box_cells HBX.out
      have hbe1 := box_cells HBE.out
      have lbx := heap_lt HBX.out
      have lbe := heap_lt HBE.out
      have lb3 : w.heap.size + 3 ≤ w1.heap.size := heap_lt I1.out.br
      rcases hq with rfl | rfl
      · go_wp2_with fail
        go_region_with (first
            | (go_at_call 167; refine (HFc.out _ I1.out.drew.did.rd I1.out.drew.gl).mono ?_; rintro e5 w5 ⟨op5, k5, nm5, fd5, a5, len5, c5, rfl, x5, d5⟩; have I5 := Lib.hid (I1.out.drew.next d5); have X5 := Lib.hid x5; have D5 := Lib.hid ((Onl.refl p w1).drew.trans d5.onl); have E5 := Lib.hid ((d5.onl.block _ I1.out.nb.2.1 (heap_lt HBE.out)).trans HBE.out); have M5 := box_cells E5.out; have M6 := heap_lt E5.out; clear x5 d5)
            | (go_at_call 84; refine (of_any _ _ _ _ _).mono ?_; rintro e6 w6 ⟨rfl, b6⟩; have b7 : Below w5.heap.size w5 w6 := ((Below.refl w5.heap.size w5).alloc (Nat.le_refl _) _).trans (b6.mono (by simp)); have E6 := Lib.hid ((b7.block _ (heap_lt E5.out)).trans E5.out); have M7 := box_cells E6.out; have M8 : ∀ o, w6.frozen? ⟨w.heap.size + 1, o, none⟩ = false := fun o => by { simp [World.frozen?, E6.out] }; have B7 := Lib.hid b7; have B6 := Lib.hid b6; clear b6 b7))
        all_goals
          have D7 := Lib.hid (RwI.push I5.out hpl hgl (Nat.le_refl _) hB E5.out (HX.out.sub (mk_onl (.inl rfl) D5.out)) X5.out lb3 B6.out hop)
          have S7 := Lib.hid (((((((ST1.out.onl D5.out).onl (Onl.of B7.out (Nat.le_refl _))).set (b := w.heap.size + 1) (o := 0) (Nat.le_add_right _ _) (.int .i64 (o : Nat))).set (b := w.heap.size + 1) (o := 1) (Nat.le_add_right _ _) (.int .i64 0)).set (b := w.heap.size + 1) (o := 2) (Nat.le_add_right _ _) (.string noB)).set (b := w.heap.size + 1) (o := 3) (Nat.le_add_right _ _) (.string noB)).set (b := w.heap.size + 1) (o := 4) (Nat.le_add_right _ _) (.slice (some ⟨w5.heap.size, 0, none⟩) 2 2))
          go_roundw
          case rel => exact ⟨_, _, _, _, _, _, _, _, _, _, _, _, _, _, ⟨m, _, _, D7.out, S7.out, by omega, by omega, HR2.out⟩, rfl⟩
          case measure => rw [leftW_at D7.out.did.rd, leftW_at I.out.did.rd]; omega
      · go_wp2_with fail
        go_region_with (first
            | (go_at_call 133; refine (HFc.out _ I1.out.drew.did.rd I1.out.drew.gl).mono ?_; rintro e5 w5 ⟨op5, k5, nm5, fd5, a5, len5, c5, rfl, x5, d5⟩; have I5 := Lib.hid (I1.out.drew.next d5); have X5 := Lib.hid x5; have D5 := Lib.hid ((Onl.refl p w1).drew.trans d5.onl); have E5 := Lib.hid ((d5.onl.block _ I1.out.nb.2.1 (heap_lt HBE.out)).trans HBE.out); have M5 := box_cells E5.out; have M6 := heap_lt E5.out; clear x5 d5)
            | (go_at_call 84; refine (of_any _ _ _ _ _).mono ?_; rintro e6 w6 ⟨rfl, b6⟩; have b7 : Below w5.heap.size w5 w6 := ((Below.refl w5.heap.size w5).alloc (Nat.le_refl _) _).trans (b6.mono (by simp)); have E6 := Lib.hid ((b7.block _ (heap_lt E5.out)).trans E5.out); have M7 := box_cells E6.out; have M8 : ∀ o, w6.frozen? ⟨w.heap.size + 1, o, none⟩ = false := fun o => by { simp [World.frozen?, E6.out] }; have B7 := Lib.hid b7; have B6 := Lib.hid b6; clear b6 b7))
        all_goals
          have D7 := Lib.hid (RwI.push I5.out hpl hgl (Nat.le_refl _) hB E5.out (HX.out.sub (mk_onl (.inl rfl) D5.out)) X5.out lb3 B6.out hop)
          have S7 := Lib.hid (((((((ST1.out.onl D5.out).onl (Onl.of B7.out (Nat.le_refl _))).set (b := w.heap.size + 1) (o := 0) (Nat.le_add_right _ _) (.int .i64 (o : Nat))).set (b := w.heap.size + 1) (o := 1) (Nat.le_add_right _ _) (.int .i64 0)).set (b := w.heap.size + 1) (o := 2) (Nat.le_add_right _ _) (.string noB)).set (b := w.heap.size + 1) (o := 3) (Nat.le_add_right _ _) (.string noB)).set (b := w.heap.size + 1) (o := 4) (Nat.le_add_right _ _) (.slice (some ⟨w5.heap.size, 0, none⟩) 2 2))
          go_roundw
          case rel => exact ⟨_, _, _, _, _, _, _, _, _, _, _, _, _, _, ⟨m, _, _, D7.out, S7.out, by omega, by omega, HR2.out⟩, rfl⟩
          case measure => rw [leftW_at D7.out.did.rd, leftW_at I.out.did.rd]; omega
end Go.Proofs.YtpcldpnaljheoaaGreatDoor
end
section
namespace Go.Proofs.YtpcldpnaljheoaaGreatDoor
open Go.RowKit Go.Deep

/-- A reader's function: its box, its result's. -/
structure FrI (p g cap : Nat) (ts : List Tok) (f x y z : Int) (b : Nat) (s : RS) (w W : World) : Prop where
  did : Did p g cap ts s w W
  gl : Gl p W
  bx : W.heap[b]? = some (.cells (xC p f x y z) 92)
  br : W.heap[b + 1]? = some (.cells (exC 0 0 ⟨#[]⟩ ⟨#[]⟩ none 0 0) 25)
  nb : b ≠ p ∧ b + 1 ≠ p
theorem FrI.next {p g cap : Nat} {ts : List Tok} {f x y z : Int} {b : Nat} {s s1 : RS} {w W W1 : World} (h : FrI p g cap ts f x y z b s w W) (d : Did p g cap ts s1 W W1) : FrI p g cap ts f x y z b s1 w W1 :=
  ⟨h.did.trans d, h.gl.onl d.onl, (d.onl.block _ h.nb.1 (heap_lt h.bx)).trans h.bx, (d.onl.block _ h.nb.2 (heap_lt h.br)).trans h.br, h.nb⟩
theorem FrI.below {p g cap : Nat} {ts : List Tok} {f x y z : Int} {b : Nat} {s : RS} {w W W1 : World} (h : FrI p g cap ts f x y z b s w W) (d : Below W.heap.size W W1) : FrI p g cap ts f x y z b s w W1 := h.next (Did.of h.did.rd d)
theorem FrI.drew {p g cap : Nat} {ts : List Tok} {f x y z : Int} {b : Nat} {s : RS} {w W : World} (h : FrI p g cap ts f x y z b s w W) : FrI p g cap ts f x y z b s w W.drew := h.below (below_drew0 (Below.refl _ _))
theorem FrI.alloc {p g cap : Nat} {ts : List Tok} {f x y z : Int} {b : Nat} {s : RS} {w W : World} (h : FrI p g cap ts f x y z b s w W) (o : Obj) : FrI p g cap ts f x y z b s w (W.alloc o) := h.below ((Below.refl _ _).alloc (Nat.le_refl _) o)
theorem FrI.start {p g cap : Nat} {ts : List Tok} {s : RS} {w : World} (h : RdAt p g cap ts s w) (hG : Gl p w) (f x y z : Int) :
    FrI p g cap ts f x y z w.heap.size s w ((w.alloc (.cells (xC p f x y z) 92)).alloc (.cells (exC 0 0 ⟨#[]⟩ ⟨#[]⟩ none 0 0) 25)) := by
  have B0 := ((Below.refl w.heap.size w).alloc (Nat.le_refl _) (.cells (xC p f x y z) 92)).alloc (by simp) (.cells (exC 0 0 ⟨#[]⟩ ⟨#[]⟩ none 0 0) 25)
  have hpl := h.lt
  refine ⟨Did.of h B0, hG.onl (Onl.of B0 (Nat.le_refl _)), ?_, ?_, by omega, by omega⟩
  · exact (((Below.refl (w.heap.size + 1) (w.alloc (.cells (xC p f x y z) 92))).alloc (by simp) (.cells (exC 0 0 ⟨#[]⟩ ⟨#[]⟩ none 0 0) 25)).block w.heap.size (by omega)).trans (heap_new w _)
  · have e1 := heap_new (w.alloc (.cells (xC p f x y z) 92)) (.cells (exC 0 0 ⟨#[]⟩ ⟨#[]⟩ none 0 0) 25)
    simpa using e1
/-- What is stored as the result. -/
theorem FrI.fin {p g cap : Nat} {ts : List Tok} {f x y z : Int} {s : RS} {w W : World} (h : FrI p g cap ts f x y z w.heap.size s w W) (hp : p < w.heap.size) (hg : g < w.heap.size)
    {u : List D} {B : Nat} {op k : Int} {nm fd : ByteArray} {a : Option Addr} {len c : Nat} (hu : ExAt (Mk (Bd p B) W) u op k nm fd a len c) (hB : w.heap.size + 2 ≤ B) :
    (((((W.setCell ⟨w.heap.size + 1, 0, none⟩ (.int .i64 op)).setCell ⟨w.heap.size + 1, 1, none⟩ (.int .i64 k)).setCell ⟨w.heap.size + 1, 2, none⟩ (.string nm)).setCell ⟨w.heap.size + 1, 3, none⟩ (.string fd)).setCell ⟨w.heap.size + 1, 4, none⟩ (.slice a len c)).heap[w.heap.size + 1]? = some (.cells (exC op k nm fd a len c) 25) ∧ ExAt (Mk (Bd p w.heap.size) (((((W.setCell ⟨w.heap.size + 1, 0, none⟩ (.int .i64 op)).setCell ⟨w.heap.size + 1, 1, none⟩ (.int .i64 k)).setCell ⟨w.heap.size + 1, 2, none⟩ (.string nm)).setCell ⟨w.heap.size + 1, 3, none⟩ (.string fd)).setCell ⟨w.heap.size + 1, 4, none⟩ (.slice a len c))) u op k nm fd a len c ∧ Did p g cap ts s w (((((W.setCell ⟨w.heap.size + 1, 0, none⟩ (.int .i64 op)).setCell ⟨w.heap.size + 1, 1, none⟩ (.int .i64 k)).setCell ⟨w.heap.size + 1, 2, none⟩ (.string nm)).setCell ⟨w.heap.size + 1, 3, none⟩ (.string fd)).setCell ⟨w.heap.size + 1, 4, none⟩ (.slice a len c)) := by
  have hm : ∀ W : World, ∀ o : Nat, ∀ v : Value, Sub (Mk (Bd p B) W) (Mk (Bd p B) (W.setCell ⟨w.heap.size + 1, o, none⟩ v)) := fun W o v => mk_set (.inr (by omega)) W v
  exact ⟨(heap_setC (o := 4) (heap_setC (o := 3) (heap_setC (o := 2) (heap_setC (o := 1) (heap_setC (o := 0) h.br (.int .i64 op)) (.int .i64 k)) (.string nm)) (.string fd)) (.slice a len c)), ((((((hu.sub (hm _ _ _)).sub (hm _ _ _)).sub (hm _ _ _)).sub (hm _ _ _)).sub (hm _ _ _))).sub (mk_weak (P' := Bd p w.heap.size) _ (by rintro k (h | h); exact .inl h; exact .inr (by omega))), (((((h.did.own hp hg (by omega) (q := w.heap.size + 1) (o := 0) (.int .i64 op)).own hp hg (by omega) (q := w.heap.size + 1) (o := 1) (.int .i64 k)).own hp hg (by omega) (q := w.heap.size + 1) (o := 2) (.string nm)).own hp hg (by omega) (q := w.heap.size + 1) (o := 3) (.string fd)).own hp hg (by omega) (q := w.heap.size + 1) (o := 4) (.slice a len c))⟩
theorem FrI.set {p g cap : Nat} {ts : List Tok} {f x y z : Int} {s : RS} {w W : World} (h : FrI p g cap ts f x y z w.heap.size s w W) (hp : p < w.heap.size) (hg : g < w.heap.size) {q o : Nat} (hq : w.heap.size + 2 ≤ q) (v : Value) : FrI p g cap ts f x y z w.heap.size s w (W.setCell ⟨q, o, none⟩ v) :=
  ⟨h.did.own hp hg (by omega) v, h.gl.set (by omega) v, (Below.heap_setCell _ _ _ _ (by show w.heap.size ≠ q; omega)).trans h.bx, (Below.heap_setCell _ _ _ _ (by show w.heap.size + 1 ≠ q; omega)).trans h.br, h.nb⟩
end Go.Proofs.YtpcldpnaljheoaaGreatDoor
end
section
namespace Go.Proofs.YtpcldpnaljheoaaGreatDoor
open Go.RowKit Go.Deep

theorem strs1 (p : Nat) (W : World) (s : ByteArray) (hs : s.size ≤ maxLen) (hp : p < W.heap.size) : StrsAt p (W.alloc (.cells #[.string s] 9)).heap.size (W.alloc (.cells #[.string s] 9)) (some ⟨W.heap.size, 0, none⟩) 1 1 [s] :=
  ⟨lit_strs W [s] (by show 1 ≤ maxLen; decide) (fun x hx => by rw [List.mem_singleton.1 hx]; exact hs), fun b o e => by injection e with e; injection e with e1 e2; subst e1; exact ⟨by omega, by simp⟩⟩
def firstF (ts : List Tok) (T : RS → XS) (s : RS) : XS := if isT ts s [⟨#[45]⟩] = true then (mkE 8 0 noB noB [(T (stepS s)).1], (T (stepS s)).2) else T s
set_option maxRecDepth 100000 in
set_option maxHeartbeats 400000 in
theorem first_ok {p g cap : Nat} {ts : List Tok} {f x y z : Int} {n : Nat} {T : RS → XS} (hT : Ok p g cap ts f x y z 133 T n) : Ok p g cap ts f x y z 132 (firstF ts T) n := by
  refine ⟨fun s w h hG hn => ?_, fun s => ?_⟩
  · have I0 := Lib.hid (FrI.start h hG f x y z)
    have hpl := h.lt
    have hgl := h.toks.lt
    unfold firstF
    have htk := takeR_any (I0.out.alloc (.cells #[.string ⟨#[45]⟩] 9)).did.rd (strs1 p _ ⟨#[45]⟩ (by decide) I0.out.did.rd.lt).is
    rw [show ((w.alloc (.cells (xC p f x y z) 92)).alloc (.cells (exC 0 0 ⟨#[]⟩ ⟨#[]⟩ none 0 0) 25)).heap.size = w.heap.size + 1 + 1 by simp] at htk
    have HTK := Lib.hid htk
    clear htk
    clear h hG
    cases hi : isT ts s [⟨#[45]⟩] with
    | false =>
      rw [takeT_no hi] at HTK
      rw [if_neg (by decide)]
      have HC := Lib.hid (fun W (RR : RdAt p g cap ts s W) (G' : Gl p W) => hT.call s W RR G' hn)
      clear hi hT
      generalize T s = R at HC ⊢
      go_enter Tryz.func132, Tryz.ntmps132
      go_wp2_with fail
      refine HTK.out.mono ?_
      rintro e w1 ⟨rfl, d1⟩
      have I1 := Lib.hid ((I0.out.alloc _).next d1)
      have bx1 := box_cells I1.out.bx
      have lx1 := heap_lt I1.out.bx
      have z1 : w.heap.size + 2 ≤ w1.heap.size := heap_lt I1.out.br
      clear d1
      go_wp2_with fail
      refine (HC.out _ I1.out.did.rd I1.out.gl).mono ?_
      rintro e w5 ⟨op5, k5, nm5, fd5, a5, len5, c5, rfl, x5, d5⟩
      have I5 := Lib.hid (I1.out.next d5)
      have FN := Lib.hid (I5.out.fin hpl hgl x5 z1)
      have b50 : w5.cell? ⟨w.heap.size + 1, 0, none⟩ = some (.int .i64 0) := box_cells I5.out.br 0
      have b51 : w5.cell? ⟨w.heap.size + 1, 1, none⟩ = some (.int .i64 0) := box_cells I5.out.br 1
      have b52 : w5.cell? ⟨w.heap.size + 1, 2, none⟩ = some (.string ⟨#[]⟩) := box_cells I5.out.br 2
      have b53 : w5.cell? ⟨w.heap.size + 1, 3, none⟩ = some (.string ⟨#[]⟩) := box_cells I5.out.br 3
      have b54 : w5.cell? ⟨w.heap.size + 1, 4, none⟩ = some (.slice none 0 0) := box_cells I5.out.br 4
      have f5 : ∀ o, w5.frozen? ⟨w.heap.size + 1, o, none⟩ = false := fun o => by simp [World.frozen?, I5.out.br]
      clear x5 d5
      go_wp2_with fail
      exact bodyPost_ret (v := exV op5 k5 nm5 fd5 a5 len5 c5) (results_cell (i := 2) (b := w.heap.size + 1) Tryz.results132 Tryz.isAgg25 Tryz.sizeOf25 rfl rfl FN.out.1) rfl ⟨_, _, _, _, _, _, _, rfl, FN.out.2.1, FN.out.2.2⟩
    | true =>
      have hlt := left_stepT hi
      rw [takeT_yes hi] at HTK
      have hne := text_ne (fun h => absurd (List.mem_singleton.1 h) (by decide)) hi
      rw [if_pos rfl]
      have HC := Lib.hid (fun W (RR : RdAt p g cap ts (stepS s) W) (G' : Gl p W) => hT.call (stepS s) W RR G' (by omega))
      clear hi hT
      generalize T (stepS s) = R at HC ⊢
      generalize cur ts s = tk at HTK hne
      generalize stepS s = s1 at HTK HC hlt
      go_enter Tryz.func132, Tryz.ntmps132
      go_wp2_with fail
      refine HTK.out.mono ?_
      rintro e w1 ⟨rfl, d1⟩
      have I1 := Lib.hid ((I0.out.alloc _).next d1)
      have bx1 := box_cells I1.out.bx
      have lx1 := heap_lt I1.out.bx
      have z1 : w.heap.size + 2 ≤ w1.heap.size := heap_lt I1.out.br
      clear d1
      go_wp2_with fail
      refine (HC.out _ I1.out.did.rd I1.out.gl).mono ?_
      rintro e w5 ⟨op5, k5, nm5, fd5, a5, len5, c5, rfl, x5, d5⟩
      have I5 := Lib.hid (I1.out.next d5)
      have X5 := Lib.hid x5
      have z5 : w1.heap.size ≤ w5.heap.size := d5.onl.size
      clear x5 d5
      go_wp2_with fail
      refine (of_any _ _ _ _ _).mono ?_
      rintro e w6 ⟨rfl, b6⟩
      have b7 : Below w5.heap.size w5 w6 := ((Below.refl w5.heap.size w5).alloc (Nat.le_refl _) _).trans (b6.mono (by simp))
      have hrow := (b6.block w5.heap.size (by simp)).trans (heap_new w5 _)
      have S6 : Sub (Mk (Bd p w1.heap.size) w5) (Mk (Bd p w1.heap.size) w6) := mk_step b7.size fun k hk _ => b7.block k hk
      have hpw := I5.out.did.rd.lt
      have hrw := row1_at (P := Bd p w1.heap.size) hrow (by rintro (h | h) <;> omega) (X5.out.sub S6).1
      have I6 := Lib.hid (I5.out.below b7)
      have FN := Lib.hid (I6.out.fin hpl hgl (ExAt.over (op := 8) (n := 0) (nm := noB) (fd := noB) hrw (by
        intro z hz
        obtain rfl := List.mem_singleton.1 hz
        exact X5.out.2) (by omega) (by omega) (by omega) (by omega) (by decide) (by decide)) z1)
      have b5 := box_cells I6.out.br
      have f5 : ∀ o, w6.frozen? ⟨w.heap.size + 1, o, none⟩ = false := fun o => by simp [World.frozen?, I6.out.br]
      clear hrow hrw b6 b7 S6
      go_wp2_with fail
      exact bodyPost_ret (v := exV 8 0 noB noB (some ⟨w5.heap.size, 0, none⟩) 1 1) (results_cell (i := 2) (b := w.heap.size + 1) Tryz.results132 Tryz.isAgg25 Tryz.sizeOf25 rfl rfl FN.out.1) rfl ⟨_, _, _, _, _, _, _, rfl, FN.out.2.1, FN.out.2.2⟩
  · unfold firstF
    cases hi : isT ts s [⟨#[45]⟩] with
    | false => rw [if_neg (by decide)]; exact hT.mono s
    | true => rw [if_pos rfl]; exact Nat.le_trans (hT.mono _) (Nat.le_of_lt (left_stepT hi))
end Go.Proofs.YtpcldpnaljheoaaGreatDoor
end
section
namespace Go.Proofs.YtpcldpnaljheoaaGreatDoor
open Go.RowKit Go.Deep

set_option maxRecDepth 100000 in
set_option maxHeartbeats 2000000 in
theorem term_row {p g cap : Nat} {ts : List Tok} {f x y z : Int} {n : Nat} {F G : RS → XS} (hF : Ok p g cap ts f x y z 167 F n) (hG' : Ok p g cap ts f x y z 167 G n) :
    Ok p g cap ts f x y z 133 (fun s => rowP ts mulL G (ts.length + 1) (F s).1 (F s).2) n := by
  refine ⟨fun s w h hG hn => ?_, fun s => Nat.le_trans (left_rowP ts mulL G hG'.mono _ _ _) (hF.mono s)⟩
  have I0 := Lib.hid (FrI.start h hG f x y z)
  have hpl := h.lt
  have hgl := h.toks.lt
  have HFc := Lib.hid (fun W (RR : RdAt p g cap ts s W) (G' : Gl p W) => hF.call s W RR G' hn)
  have HG := Lib.hid hG'
  have hn2 := Nat.lt_of_le_of_lt (hF.mono s) hn
  clear h hG hF hG'
  show Calls Tryz.prog _ _ w (XPost p g cap ts (rowP ts mulL G (ts.length + 1) (F s).1 (F s).2) w.heap.size w)
  generalize F s = r at HFc hn2 ⊢
  have HRow := Lib.hid (fun (W : World) (RR : RdAt p g cap ts r.2 W) (G' : Gl p W) (a : Option Addr) (len c : Nat) (hS : StrsAt p W.heap.size W a len c mulL) (op k : Int) (nm fd : ByteArray) (ea : Option Addr) (el ec B : Nat) (hB : B ≤ W.heap.size) (he : ExAt (Mk (Bd p B) W) r.1 op k nm fd ea el ec) => row_any HG.out (.inl rfl) RR G' hn2 hS hB he)
  generalize rowP ts mulL G (ts.length + 1) r.1 r.2 = R at HRow ⊢
  go_enter Tryz.func133, Tryz.ntmps133
  go_wp2_with fail
  have ZZ := Lib.hid (show ((w.alloc (.cells (xC p f x y z) 92)).alloc (.cells (exC 0 0 ⟨#[]⟩ ⟨#[]⟩ none 0 0) 25)).heap.size = w.heap.size + 2 by simp)
  generalize (w.alloc (.cells (xC p f x y z) 92)).alloc (.cells (exC 0 0 ⟨#[]⟩ ⟨#[]⟩ none 0 0) 25) = W0 at I0 ZZ ⊢
  have I0L := Lib.hid (I0.out.alloc (.cells #[.string ⟨#[42]⟩, .string ⟨#[100, 105, 118]⟩, .string ⟨#[109, 111, 100]⟩, .string ⟨#[97, 110, 100]⟩] 9))
  have HL := Lib.hid (fun (W : World) (hp : p < W.heap.size) => show StrsAt p (W.alloc (.cells #[.string ⟨#[42]⟩, .string ⟨#[100, 105, 118]⟩, .string ⟨#[109, 111, 100]⟩, .string ⟨#[97, 110, 100]⟩] 9)).heap.size (W.alloc (.cells #[.string ⟨#[42]⟩, .string ⟨#[100, 105, 118]⟩, .string ⟨#[109, 111, 100]⟩, .string ⟨#[97, 110, 100]⟩] 9)) (some ⟨W.heap.size, 0, none⟩) 4 4 mulL from
    ⟨lit_strs W mulL (by decide) (by decide), fun b o e => by injection e with e; injection e with e1 e2; subst e1; exact ⟨by omega, by simp⟩⟩)
  have L0 := Lib.hid (HL.out W0 I0.out.did.rd.lt)
  have KB : ∀ W' : World, W'.heap[w.heap.size]? = some (.cells (xC p f x y z) 92) → W'.cell? ⟨w.heap.size, 0, none⟩ = some (.pointer (some ⟨p, 0, none⟩)) ∧ W'.cell? ⟨w.heap.size, 1, none⟩ = some (.int .i64 f) ∧ W'.cell? ⟨w.heap.size, 2, none⟩ = some (.int .i64 x) ∧ W'.cell? ⟨w.heap.size, 3, none⟩ = some (.int .i64 y) ∧ W'.cell? ⟨w.heap.size, 4, none⟩ = some (.int .i64 z) := fun W' e => ⟨box_cells e 0, box_cells e 1, box_cells e 2, box_cells e 3, box_cells e 4⟩
  have HKB := Lib.hid KB
  clear KB
  go_region_held3 (fun W' => W'.cell? ⟨w.heap.size, 0, none⟩ = some (.pointer (some ⟨p, 0, none⟩)) ∧ W'.cell? ⟨w.heap.size, 1, none⟩ = some (.int .i64 f) ∧ W'.cell? ⟨w.heap.size, 2, none⟩ = some (.int .i64 x) ∧ W'.cell? ⟨w.heap.size, 3, none⟩ = some (.int .i64 y) ∧ W'.cell? ⟨w.heap.size, 4, none⟩ = some (.int .i64 z))
    (first | with_reducible exact HKB.out _ I0.out.drew.bx | with_reducible exact HKB.out _ I0L.out.drew.bx | with_reducible exact HKB.out _ I5.out.bx | with_reducible exact HKB.out _ (I5.out.alloc _).bx | with_reducible exact HKB.out _ I8.out.bx | with_reducible exact K9.out | with_reducible assumption)
    (first
      | (go_at_call 167; refine (HFc.out _ I0.out.drew.did.rd I0.out.drew.gl).mono ?_; rintro e5 w5 ⟨op5, k5, nm5, fd5, a5, len5, c5, rfl, x5, d5⟩; have I5 := Lib.hid (I0.out.drew.next d5); have Z6 : W0.drew.heap.size ≤ (w5.alloc (.cells #[.string ⟨#[42]⟩, .string ⟨#[100, 105, 118]⟩, .string ⟨#[109, 111, 100]⟩, .string ⟨#[97, 110, 100]⟩] 9)).heap.size := Nat.le_trans d5.onl.size (by { simp }); have I6 := Lib.hid (I5.out.alloc (.cells #[.string ⟨#[42]⟩, .string ⟨#[100, 105, 118]⟩, .string ⟨#[109, 111, 100]⟩, .string ⟨#[97, 110, 100]⟩] 9)); have X6 := Lib.hid (x5.sub (mk_onl (p := p) (.inl rfl) ((Onl.refl p w5).alloc (.cells #[.string ⟨#[42]⟩, .string ⟨#[100, 105, 118]⟩, .string ⟨#[109, 111, 100]⟩, .string ⟨#[97, 110, 100]⟩] 9)))); have L6 := Lib.hid (HL.out w5 I5.out.did.rd.lt); clear x5 d5)
      | (go_at_call 167; refine (HFc.out _ I0L.out.drew.did.rd I0L.out.drew.gl).mono ?_; rintro e5 w5 ⟨op5, k5, nm5, fd5, a5, len5, c5, rfl, x5, d5⟩; have I5 := Lib.hid (I0L.out.drew.next d5); have I6 := I5; have X6 := Lib.hid x5; have Z6 := d5.onl.size; have L6 := Lib.hid ((L0.out.onl ((Onl.refl _ _).drew.trans d5.onl)).mono Z6); clear x5 d5)
      | (go_at_call 131; refine (HRow.out _ I6.out.did.rd I6.out.gl _ _ _ L6.out _ _ _ _ _ _ _ _ Z6 X6.out).mono ?_; rintro e8 w8 ⟨op8, k8, nm8, fd8, a8, len8, c8, rfl, x8, d8⟩; have I8 := Lib.hid (I6.out.next d8); have X8 := Lib.hid x8; have M8 := box_cells I8.out.br; have N8 : ∀ o, w8.frozen? ⟨w.heap.size + 1, o, none⟩ = false := fun o => by { simp [World.frozen?, I8.out.br] }; have K9 := Lib.hid (HKB.out _ ((heap_set5 w8 (w.heap.size + 1) w.heap.size (Nat.ne_of_lt (Nat.lt_succ_self _)) (.int .i64 op8) (.int .i64 k8) (.string nm8) (.string fd8) (.slice a8 len8 c8)).trans I8.out.bx)); clear x8 d8))
  all_goals
    have FN := Lib.hid (I8.out.fin hpl hgl X8.out (by first | exact Nat.le_of_eq ZZ.out.symm | (show w.heap.size + 2 ≤ (W0.alloc _).heap.size; have := ZZ.out; simp; omega)))
    go_wp2_with fail
    exact bodyPost_ret (v := exV op8 k8 nm8 fd8 a8 len8 c8) (results_cell (i := 2) (b := w.heap.size + 1) Tryz.results133 Tryz.isAgg25 Tryz.sizeOf25 rfl rfl FN.out.1) rfl ⟨_, _, _, _, _, _, _, rfl, FN.out.2.1, FN.out.2.2⟩
end Go.Proofs.YtpcldpnaljheoaaGreatDoor
end
section
namespace Go.Proofs.YtpcldpnaljheoaaGreatDoor
open Go.RowKit Go.Deep

set_option maxRecDepth 100000 in
set_option maxHeartbeats 2000000 in
theorem simple_row {p g cap : Nat} {ts : List Tok} {f x y z : Int} {n : Nat} {F G : RS → XS} (hF : Ok p g cap ts f x y z 132 F n) (hG' : Ok p g cap ts f x y z 133 G n) :
    Ok p g cap ts f x y z 82 (fun s => rowP ts addL G (ts.length + 1) (F s).1 (F s).2) n := by
  refine ⟨fun s w h hG hn => ?_, fun s => Nat.le_trans (left_rowP ts addL G hG'.mono _ _ _) (hF.mono s)⟩
  have I0 := Lib.hid (FrI.start h hG f x y z)
  have hpl := h.lt
  have hgl := h.toks.lt
  have HFc := Lib.hid (fun W (RR : RdAt p g cap ts s W) (G' : Gl p W) => hF.call s W RR G' hn)
  have HG := Lib.hid hG'
  have hn2 := Nat.lt_of_le_of_lt (hF.mono s) hn
  clear h hG hF hG'
  show Calls Tryz.prog _ _ w (XPost p g cap ts (rowP ts addL G (ts.length + 1) (F s).1 (F s).2) w.heap.size w)
  generalize F s = r at HFc hn2 ⊢
  have HRow := Lib.hid (fun (W : World) (RR : RdAt p g cap ts r.2 W) (G' : Gl p W) (a : Option Addr) (len c : Nat) (hS : StrsAt p W.heap.size W a len c addL) (op k : Int) (nm fd : ByteArray) (ea : Option Addr) (el ec B : Nat) (hB : B ≤ W.heap.size) (he : ExAt (Mk (Bd p B) W) r.1 op k nm fd ea el ec) => row_any HG.out (.inr rfl) RR G' hn2 hS hB he)
  generalize rowP ts addL G (ts.length + 1) r.1 r.2 = R at HRow ⊢
  go_enter Tryz.func82, Tryz.ntmps82
  go_wp2_with fail
  have ZZ := Lib.hid (show ((w.alloc (.cells (xC p f x y z) 92)).alloc (.cells (exC 0 0 ⟨#[]⟩ ⟨#[]⟩ none 0 0) 25)).heap.size = w.heap.size + 2 by simp)
  generalize (w.alloc (.cells (xC p f x y z) 92)).alloc (.cells (exC 0 0 ⟨#[]⟩ ⟨#[]⟩ none 0 0) 25) = W0 at I0 ZZ ⊢
  have I0L := Lib.hid (I0.out.alloc (.cells #[.string ⟨#[43]⟩, .string ⟨#[45]⟩, .string ⟨#[111, 114]⟩] 9))
  have HL := Lib.hid (fun (W : World) (hp : p < W.heap.size) => show StrsAt p (W.alloc (.cells #[.string ⟨#[43]⟩, .string ⟨#[45]⟩, .string ⟨#[111, 114]⟩] 9)).heap.size (W.alloc (.cells #[.string ⟨#[43]⟩, .string ⟨#[45]⟩, .string ⟨#[111, 114]⟩] 9)) (some ⟨W.heap.size, 0, none⟩) 3 3 addL from
    ⟨lit_strs W addL (by decide) (by decide), fun b o e => by injection e with e; injection e with e1 e2; subst e1; exact ⟨by omega, by simp⟩⟩)
  have L0 := Lib.hid (HL.out W0 I0.out.did.rd.lt)
  have KB : ∀ W' : World, W'.heap[w.heap.size]? = some (.cells (xC p f x y z) 92) → W'.cell? ⟨w.heap.size, 0, none⟩ = some (.pointer (some ⟨p, 0, none⟩)) ∧ W'.cell? ⟨w.heap.size, 1, none⟩ = some (.int .i64 f) ∧ W'.cell? ⟨w.heap.size, 2, none⟩ = some (.int .i64 x) ∧ W'.cell? ⟨w.heap.size, 3, none⟩ = some (.int .i64 y) ∧ W'.cell? ⟨w.heap.size, 4, none⟩ = some (.int .i64 z) := fun W' e => ⟨box_cells e 0, box_cells e 1, box_cells e 2, box_cells e 3, box_cells e 4⟩
  have HKB := Lib.hid KB
  clear KB
  go_region_held3 (fun W' => W'.cell? ⟨w.heap.size, 0, none⟩ = some (.pointer (some ⟨p, 0, none⟩)) ∧ W'.cell? ⟨w.heap.size, 1, none⟩ = some (.int .i64 f) ∧ W'.cell? ⟨w.heap.size, 2, none⟩ = some (.int .i64 x) ∧ W'.cell? ⟨w.heap.size, 3, none⟩ = some (.int .i64 y) ∧ W'.cell? ⟨w.heap.size, 4, none⟩ = some (.int .i64 z))
    (first | with_reducible exact HKB.out _ I0.out.drew.bx | with_reducible exact HKB.out _ I0L.out.drew.bx | with_reducible exact HKB.out _ I5.out.bx | with_reducible exact HKB.out _ (I5.out.alloc _).bx | with_reducible exact HKB.out _ I8.out.bx | with_reducible exact K9.out | with_reducible assumption)
    (first
      | (go_at_call 132; refine (HFc.out _ I0.out.drew.did.rd I0.out.drew.gl).mono ?_; rintro e5 w5 ⟨op5, k5, nm5, fd5, a5, len5, c5, rfl, x5, d5⟩; have I5 := Lib.hid (I0.out.drew.next d5); have Z6 : W0.drew.heap.size ≤ (w5.alloc (.cells #[.string ⟨#[43]⟩, .string ⟨#[45]⟩, .string ⟨#[111, 114]⟩] 9)).heap.size := Nat.le_trans d5.onl.size (by { simp }); have I6 := Lib.hid (I5.out.alloc (.cells #[.string ⟨#[43]⟩, .string ⟨#[45]⟩, .string ⟨#[111, 114]⟩] 9)); have X6 := Lib.hid (x5.sub (mk_onl (p := p) (.inl rfl) ((Onl.refl p w5).alloc (.cells #[.string ⟨#[43]⟩, .string ⟨#[45]⟩, .string ⟨#[111, 114]⟩] 9)))); have L6 := Lib.hid (HL.out w5 I5.out.did.rd.lt); clear x5 d5)
      | (go_at_call 132; refine (HFc.out _ I0L.out.drew.did.rd I0L.out.drew.gl).mono ?_; rintro e5 w5 ⟨op5, k5, nm5, fd5, a5, len5, c5, rfl, x5, d5⟩; have I5 := Lib.hid (I0L.out.drew.next d5); have I6 := I5; have X6 := Lib.hid x5; have Z6 := d5.onl.size; have L6 := Lib.hid ((L0.out.onl ((Onl.refl _ _).drew.trans d5.onl)).mono Z6); clear x5 d5)
      | (go_at_call 131; refine (HRow.out _ I6.out.did.rd I6.out.gl _ _ _ L6.out _ _ _ _ _ _ _ _ Z6 X6.out).mono ?_; rintro e8 w8 ⟨op8, k8, nm8, fd8, a8, len8, c8, rfl, x8, d8⟩; have I8 := Lib.hid (I6.out.next d8); have X8 := Lib.hid x8; have M8 := box_cells I8.out.br; have N8 : ∀ o, w8.frozen? ⟨w.heap.size + 1, o, none⟩ = false := fun o => by { simp [World.frozen?, I8.out.br] }; have K9 := Lib.hid (HKB.out _ ((heap_set5 w8 (w.heap.size + 1) w.heap.size (Nat.ne_of_lt (Nat.lt_succ_self _)) (.int .i64 op8) (.int .i64 k8) (.string nm8) (.string fd8) (.slice a8 len8 c8)).trans I8.out.bx)); clear x8 d8))
  all_goals
    have FN := Lib.hid (I8.out.fin hpl hgl X8.out (by first | exact Nat.le_of_eq ZZ.out.symm | (show w.heap.size + 2 ≤ (W0.alloc _).heap.size; have := ZZ.out; simp; omega)))
    go_wp2_with fail
    exact bodyPost_ret (v := exV op8 k8 nm8 fd8 a8 len8 c8) (results_cell (i := 2) (b := w.heap.size + 1) Tryz.results82 Tryz.isAgg25 Tryz.sizeOf25 rfl rfl FN.out.1) rfl ⟨_, _, _, _, _, _, _, rfl, FN.out.2.1, FN.out.2.2⟩
end Go.Proofs.YtpcldpnaljheoaaGreatDoor
end
section
namespace Go.Proofs.YtpcldpnaljheoaaGreatDoor
open Go.RowKit Go.Deep

def cmpF (ts : List Tok) (S : RS → XS) (s : RS) : XS :=
  if (opP ts (S s).2 cmpL).1 = 0 then ((S s).1, (opP ts (S s).2 cmpL).2)
  else (mkE ((opP ts (S s).2 cmpL).1 : Nat) 0 noB noB [(S s).1, (S (opP ts (S s).2 cmpL).2).1], (S (opP ts (S s).2 cmpL).2).2)
theorem strs6 (p : Nat) (W : World) (hp : p < W.heap.size) : StrsAt p (W.alloc (.cells #[.string ⟨#[61]⟩, .string ⟨#[60, 62]⟩, .string ⟨#[60]⟩, .string ⟨#[60, 61]⟩, .string ⟨#[62]⟩, .string ⟨#[62, 61]⟩] 9)).heap.size (W.alloc (.cells #[.string ⟨#[61]⟩, .string ⟨#[60, 62]⟩, .string ⟨#[60]⟩, .string ⟨#[60, 61]⟩, .string ⟨#[62]⟩, .string ⟨#[62, 61]⟩] 9)) (some ⟨W.heap.size, 0, none⟩) 6 6 cmpL :=
  ⟨lit_strs W cmpL (by decide) (by decide), fun b o e => by injection e with e; injection e with e1 e2; subst e1; exact ⟨by omega, by simp⟩⟩
/-- The reader's block, all below B, and one box more. -/
def Qx (p B q k : Nat) : Prop := k = p ∨ k < B ∨ k = q
set_option maxRecDepth 100000 in
set_option maxHeartbeats 2000000 in
theorem expr_ok {p g cap : Nat} {ts : List Tok} {f x y z : Int} {n : Nat} {S : RS → XS} (hS : Ok p g cap ts f x y z 82 S n) : Ok p g cap ts f x y z 46 (cmpF ts S) n := by
  refine ⟨fun s w h hG hn => ?_, fun s => ?_⟩
  · have I0 := Lib.hid (FrI.start h hG f x y z)
    have hpl := h.lt
    have hgl := h.toks.lt
    have ZZ := Lib.hid (show ((w.alloc (.cells (xC p f x y z) 92)).alloc (.cells (exC 0 0 ⟨#[]⟩ ⟨#[]⟩ none 0 0) 25)).heap.size = w.heap.size + 2 by simp)
    have hn1 : leftS ts (S s).2 < n := Nat.lt_of_le_of_lt (hS.mono s) hn
    have hn2 : leftS ts (opP ts (S s).2 cmpL).2 < n := Nat.lt_of_le_of_lt (left_opP ts _ _) hn1
    have HC := Lib.hid (fun W (RR : RdAt p g cap ts s W) (G' : Gl p W) => hS.call s W RR G' hn)
    have HC2 := Lib.hid (fun W (RR : RdAt p g cap ts (opP ts (S s).2 cmpL).2 W) (G' : Gl p W) => hS.call _ W RR G' hn2)
    have hop := opP_le ts (S s).2 cmpL
    have HO := Lib.hid (fun (W : World) (RR : RdAt p g cap ts (S s).2 (W.alloc (.cells #[.string ⟨#[61]⟩, .string ⟨#[60, 62]⟩, .string ⟨#[60]⟩, .string ⟨#[60, 61]⟩, .string ⟨#[62]⟩, .string ⟨#[62, 61]⟩] 9))) (G' : Gl p (W.alloc (.cells #[.string ⟨#[61]⟩, .string ⟨#[60, 62]⟩, .string ⟨#[60]⟩, .string ⟨#[60, 61]⟩, .string ⟨#[62]⟩, .string ⟨#[62, 61]⟩] 9))) (hp : p < W.heap.size) => operation_any RR G' (strs6 p W hp).is f x y z)
    clear h hG hS hn1 hn2
    unfold cmpF
    generalize S s = r at HC HC2 HO hop ⊢
    generalize opP ts r.2 cmpL = o at HC2 HO hop ⊢
    generalize S o.2 = r2 at HC2 ⊢
    generalize hR : (if o.1 = 0 then (r.1, o.2) else (mkE ((o.1 : Nat) : Int) 0 noB noB [r.1, r2.1], r2.2)) = R
    have HR := Lib.hid hR
    clear hR
    go_enter Tryz.func46, Tryz.ntmps46
    go_wp2_with fail
    generalize (w.alloc (.cells (xC p f x y z) 92)).alloc (.cells (exC 0 0 ⟨#[]⟩ ⟨#[]⟩ none 0 0) 25) = W0 at I0 ZZ ⊢
    refine (HC.out _ I0.out.did.rd I0.out.gl).mono ?_
    rintro e w5 ⟨op5, k5, nm5, fd5, a5, len5, c5, rfl, x5, d5⟩
    have I5 := Lib.hid (I0.out.next d5)
    have X5 := Lib.hid x5
    have hz5 := d5.onl.size
    have bx5 := box_cells I5.out.bx
    have lx5 := heap_lt I5.out.bx
    have hp5 := I5.out.did.rd.lt
    have IE := Lib.hid (I5.out.alloc (.cells (exC op5 k5 nm5 fd5 a5 len5 c5) 25))
    have E5 := Lib.hid (heap_new w5 (.cells (exC op5 k5 nm5 fd5 a5 len5 c5) 25))
    have Z5 := Lib.hid (show w.heap.size + 2 ≤ w5.heap.size by have := ZZ.out; omega)
    have ho := HO.out (w5.alloc (.cells (exC op5 k5 nm5 fd5 a5 len5 c5) 25)) (IE.out.alloc _).did.rd (IE.out.alloc _).gl IE.out.did.rd.lt
    rw [show (w5.alloc (.cells (exC op5 k5 nm5 fd5 a5 len5 c5) 25)).heap.size = w5.heap.size + 1 by simp] at ho
    have HO5 := Lib.hid ho
    clear ho x5 d5 hz5
    go_wp2_with fail
    refine HO5.out.mono ?_
    rintro e w6 ⟨rfl, d6⟩
    have I6 := Lib.hid ((IE.out.alloc (.cells #[.string ⟨#[61]⟩, .string ⟨#[60, 62]⟩, .string ⟨#[60]⟩, .string ⟨#[60, 61]⟩, .string ⟨#[62]⟩, .string ⟨#[62, 61]⟩] 9)).next d6)
    have hq : w5.heap.size ≠ p := by omega
    have E6 := Lib.hid ((d6.onl.block _ hq (by simp; omega)).trans ((((Below.refl _ _).alloc (Nat.le_refl _) (.cells #[.string ⟨#[61]⟩, .string ⟨#[60, 62]⟩, .string ⟨#[60]⟩, .string ⟨#[60, 61]⟩, .string ⟨#[62]⟩, .string ⟨#[62, 61]⟩] 9)).block _ (heap_lt E5.out)).trans E5.out))
    have X6 := Lib.hid (show ExAt (Mk (Qx p W0.heap.size w5.heap.size) w6) r.1 op5 k5 nm5 fd5 a5 len5 c5 from
      ((X5.out.sub (sub_of_blocks (w := w5) (w' := w5.alloc (.cells (exC op5 k5 nm5 fd5 a5 len5 c5) 25)) (by simp) _ (Qx p W0.heap.size w5.heap.size) fun k hk hn => ⟨by
        rintro (h | h | h)
        · exact hn (.inl h)
        · exact hn (.inr h)
        · omega, ((Below.refl _ _).alloc (Nat.le_refl _) _).block k hk⟩)).sub (mk_onl (.inl rfl) ((Onl.refl p _).alloc (.cells #[.string ⟨#[61]⟩, .string ⟨#[60, 62]⟩, .string ⟨#[60]⟩, .string ⟨#[60, 61]⟩, .string ⟨#[62]⟩, .string ⟨#[62, 61]⟩] 9)))).sub (mk_onl (.inl rfl) d6.onl))
    have Z6 := Lib.hid (heap_lt E6.out)
    have be6 := box_cells E6.out
    have le6 := heap_lt E6.out
    have bx6 := box_cells I6.out.bx
    have lx6 := heap_lt I6.out.bx
    clear d6 bx5 lx5
    by_cases h0 : o.1 = 0
    · obtain rfl : R = (r.1, o.2) := by rw [← HR.out, if_pos h0]
      have d0 : ((o.1 : Int) != 0) = false := by simp [h0]
      have FN := Lib.hid (I6.out.fin hpl hgl (X6.out.sub (mk_weak (P' := Bd p W0.heap.size) w6 (by rintro k (h | h); exact .inl h; exact .inr (.inl h)))) (Nat.le_of_eq ZZ.out.symm))
      have br6 := box_cells I6.out.br
      have f6 : ∀ o, w6.frozen? ⟨w.heap.size + 1, o, none⟩ = false := fun o => by simp [World.frozen?, I6.out.br]
      clear h0
      go_wp2_with fail
      exact bodyPost_ret (v := exV op5 k5 nm5 fd5 a5 len5 c5) (results_cell (i := 2) (b := w.heap.size + 1) Tryz.results46 Tryz.isAgg25 Tryz.sizeOf25 rfl rfl FN.out.1) rfl ⟨_, _, _, _, _, _, _, rfl, FN.out.2.1, FN.out.2.2⟩
    · obtain rfl : R = (mkE ((o.1 : Nat) : Int) 0 noB noB [r.1, r2.1], r2.2) := by rw [← HR.out, if_neg h0]
      have d0 : ((o.1 : Int) != 0) = true := by simp; omega
      clear h0
      go_wp2_with fail
      go_region_with (first
        | (go_at_call 82; refine (HC2.out _ I6.out.drew.did.rd I6.out.drew.gl).mono ?_; rintro e7 w7 ⟨op7, k7, nm7, fd7, a7, len7, c7, rfl, x7, d7⟩; have I7 := Lib.hid (I6.out.drew.next d7); have X7 := Lib.hid x7; have O7 := Lib.hid ((Onl.refl p w6).drew.trans d7.onl); have E7 := Lib.hid ((O7.out.block _ hq Z6.out).trans E6.out); have be7 := box_cells E7.out; have le7 := heap_lt E7.out; clear x7 d7)
        | (go_at_call 84; refine (of_any _ _ _ _ _).mono ?_; rintro e8 w8 ⟨rfl, b8⟩; have b9 : Below w7.heap.size w7 w8 := ((Below.refl w7.heap.size w7).alloc (Nat.le_refl _) _).trans (b8.mono (by simp)); have E8 := Lib.hid ((b9.block _ (heap_lt E7.out)).trans E7.out); have be8 := box_cells E8.out; have f8 : ∀ o, w8.frozen? ⟨w5.heap.size, o, none⟩ = false := fun o => by { simp [World.frozen?, E8.out] }; have B9 := Lib.hid b9; have B8 := Lib.hid b8; clear b8 b9))
      all_goals
        have hrow := (B8.out.block w7.heap.size (by simp)).trans (heap_new w7 _)
        have S8 : Sub (Mk (Qx p W0.heap.size w5.heap.size) w7) (Mk (Qx p W0.heap.size w5.heap.size) w8) := mk_step B9.out.size fun k hk _ => B9.out.block k hk
        have hz6 := Z6.out
        have hz7 := O7.out.size
        have hzp := I7.out.did.rd.lt
        have hz0 := ZZ.out
        have hz5 := Z5.out
        have hrw := row2_at (P := Qx p W0.heap.size w5.heap.size) (vs := [.int .i64 op5, .int .i64 k5, .string nm5, .string fd5, .slice a5 len5 c5]) (us := [.int .i64 op7, .int .i64 k7, .string nm7, .string fd7, .slice a7 len7 c7]) hrow
          (by rintro (h | h | h) <;> omega) rfl ((X6.out.sub (mk_onl (.inl rfl) O7.out)).sub S8).1
          ((X7.out.sub (mk_weak w7 (P' := Qx p W0.heap.size w5.heap.size) (by
            rintro k (h | h | h)
            · exact .inl h
            · exact .inr (show k < w6.heap.size by omega)
            · exact .inr (show k < w6.heap.size by omega)))).sub S8).1
        have hE := ExAt.over (op := ((o.1 : Nat) : Int)) (n := 0) (nm := noB) (fd := noB) hrw (by
          intro z hz
          rcases List.mem_cons.1 hz with rfl | hz
          · exact X6.out.2
          · obtain rfl := List.mem_singleton.1 hz
            exact X7.out.2) (by omega) (by omega) (by omega) (by omega) (by decide) (by decide)
        have hm : ∀ W : World, ∀ o : Nat, ∀ v : Value, Sub (Mk (Qx p W0.heap.size w5.heap.size) W) (Mk (Qx p W0.heap.size w5.heap.size) (W.setCell ⟨w5.heap.size, o, none⟩ v)) := fun W o v => mk_set (.inr (.inr rfl)) W v
        have X9 := Lib.hid (((((hE.sub (hm _ 0 (.int .i64 (o.1 : Nat)))).sub (hm _ 1 (.int .i64 0))).sub (hm _ 2 (.string noB))).sub (hm _ 3 (.string noB))).sub (hm _ 4 (.slice (some ⟨w7.heap.size, 0, none⟩) 2 2)))
        have E9 := Lib.hid (heap_setC (o := 4) (heap_setC (o := 3) (heap_setC (o := 2) (heap_setC (o := 1) (heap_setC (o := 0) E8.out (.int .i64 (o.1 : Nat))) (.int .i64 0)) (.string noB)) (.string noB)) (.slice (some ⟨w7.heap.size, 0, none⟩) 2 2))
        have I9 := Lib.hid ((((((I7.out.below B9.out).set hpl hgl (q := w5.heap.size) (o := 0) Z5.out (.int .i64 (o.1 : Nat))).set hpl hgl (q := w5.heap.size) (o := 1) Z5.out (.int .i64 0)).set hpl hgl (q := w5.heap.size) (o := 2) Z5.out (.string noB)).set hpl hgl (q := w5.heap.size) (o := 3) Z5.out (.string noB)).set hpl hgl (q := w5.heap.size) (o := 4) Z5.out (.slice (some ⟨w7.heap.size, 0, none⟩) 2 2))
        clear hrow S8 hrw hE hm hz6 hz7 hzp hz0 hz5
        generalize (((((w8.setCell ⟨w5.heap.size, 0, none⟩ (.int .i64 (o.1 : Nat))).setCell ⟨w5.heap.size, 1, none⟩ (.int .i64 0)).setCell ⟨w5.heap.size, 2, none⟩ (.string noB)).setCell ⟨w5.heap.size, 3, none⟩ (.string noB)).setCell ⟨w5.heap.size, 4, none⟩ (.slice (some ⟨w7.heap.size, 0, none⟩) 2 2)) = W9 at X9 E9 I9 ⊢
        have FN := Lib.hid (I9.out.fin hpl hgl (X9.out.sub (mk_weak (P' := Bd p W0.heap.size) W9 (by rintro k (h | h); exact .inl h; exact .inr (.inl h)))) (Nat.le_of_eq ZZ.out.symm))
        have be9 := box_cells E9.out
        have le9 := heap_lt E9.out
        have br9 := box_cells I9.out.br
        have f9 : ∀ o, W9.frozen? ⟨w.heap.size + 1, o, none⟩ = false := fun o => by simp [World.frozen?, I9.out.br]
        go_wp2_with fail
        exact bodyPost_ret (v := exV (o.1 : Nat) 0 noB noB (some ⟨w7.heap.size, 0, none⟩) 2 2) (results_cell (i := 2) (b := w.heap.size + 1) Tryz.results46 Tryz.isAgg25 Tryz.sizeOf25 rfl rfl FN.out.1) rfl ⟨_, _, _, _, _, _, _, rfl, FN.out.2.1, FN.out.2.2⟩
  · unfold cmpF
    split
    · exact Nat.le_trans (left_opP ts _ _) (hS.mono s)
    · exact Nat.le_trans (hS.mono _) (Nat.le_trans (left_opP ts _ _) (hS.mono s))
end Go.Proofs.YtpcldpnaljheoaaGreatDoor
end
section
namespace Go.Proofs.YtpcldpnaljheoaaGreatDoor
open Go.RowKit Go.Deep

def factF (ts : List Tok) (G E N C : RS → XS) (s : RS) : XS :=
  if isT ts s [notB] = true then (mkE 9 0 noB noB [(G (stepS s)).1], (G (stepS s)).2)
  else if isT ts s [⟨#[40]⟩] = true then ((E (stepS s)).1, needT ts (E (stepS s)).2 [⟨#[41]⟩])
  else if (cur ts s).kind = 1 then N s
  else C s
theorem field_kind (t : Tok) (w : World) : (Instr.field 50 (.agg (tokA t)) 0).run Tryz.prog w = .ok (.int .i64 (t.kind : Nat)) w := by kernel_rfl
set_option maxRecDepth 100000 in
set_option maxHeartbeats 2000000 in
/-- 'not'. -/
theorem factor_not {p g cap : Nat} {ts : List Tok} {f x y z : Int} {n : Nat} {G : RS → XS} (hG' : Ok p g cap ts f x y z 167 G n) {s : RS} {w : World} (h : RdAt p g cap ts s w) (hG : Gl p w) (hn : leftS ts s < n + 1) (hi : isT ts s [notB] = true) :
    Calls Tryz.prog 167 #[xV p f x y z] w (XPost p g cap ts (mkE 9 0 noB noB [(G (stepS s)).1], (G (stepS s)).2) w.heap.size w) := by
  have I0 := Lib.hid (FrI.start h hG f x y z)
  have hpl := h.lt
  have hgl := h.toks.lt
  have htk := takeR_any (I0.out.alloc (.cells #[.string notB] 9)).did.rd (strs1 p _ notB (by decide) I0.out.did.rd.lt).is
  rw [show ((w.alloc (.cells (xC p f x y z) 92)).alloc (.cells (exC 0 0 ⟨#[]⟩ ⟨#[]⟩ none 0 0) 25)).heap.size = w.heap.size + 1 + 1 by simp] at htk
  have HTK := Lib.hid htk
  clear htk
  have hlt := left_stepT hi
  rw [takeT_yes hi] at HTK
  have hne := text_ne (fun h => absurd (List.mem_singleton.1 h) (by decide)) hi
  have HC := Lib.hid (fun W (RR : RdAt p g cap ts (stepS s) W) (G'' : Gl p W) => hG'.call (stepS s) W RR G'' (by omega))
  clear hi hG' h hG
  generalize G (stepS s) = R at HC ⊢
  generalize cur ts s = tk at HTK hne
  generalize stepS s = s1 at HTK HC hlt
  go_enter Tryz.func167, Tryz.ntmps167
  go_wp2_with fail
  refine HTK.out.mono ?_
  rintro e w1 ⟨rfl, d1⟩
  have I1 := Lib.hid ((I0.out.alloc _).next d1)
  have bx1 := box_cells I1.out.bx
  have lx1 := heap_lt I1.out.bx
  have z1 : w.heap.size + 2 ≤ w1.heap.size := heap_lt I1.out.br
  clear d1
  go_wp2_with fail
  refine (HC.out _ I1.out.did.rd I1.out.gl).mono ?_
  rintro e w5 ⟨op5, k5, nm5, fd5, a5, len5, c5, rfl, x5, d5⟩
  have I5 := Lib.hid (I1.out.next d5)
  have X5 := Lib.hid x5
  have z5 : w1.heap.size ≤ w5.heap.size := d5.onl.size
  clear x5 d5
  go_wp2_with fail
  refine (of_any _ _ _ _ _).mono ?_
  rintro e w6 ⟨rfl, b6⟩
  have b7 : Below w5.heap.size w5 w6 := ((Below.refl w5.heap.size w5).alloc (Nat.le_refl _) _).trans (b6.mono (by simp))
  have hrow := (b6.block w5.heap.size (by simp)).trans (heap_new w5 _)
  have S6 : Sub (Mk (Bd p w1.heap.size) w5) (Mk (Bd p w1.heap.size) w6) := mk_step b7.size fun k hk _ => b7.block k hk
  have hpw := I5.out.did.rd.lt
  have hrw := row1_at (P := Bd p w1.heap.size) hrow (by rintro (h | h) <;> omega) (X5.out.sub S6).1
  have I6 := Lib.hid (I5.out.below b7)
  have FN := Lib.hid (I6.out.fin hpl hgl (ExAt.over (op := 9) (n := 0) (nm := noB) (fd := noB) hrw (by
    intro z hz
    obtain rfl := List.mem_singleton.1 hz
    exact X5.out.2) (by omega) (by omega) (by omega) (by omega) (by decide) (by decide)) z1)
  have b5 := box_cells I6.out.br
  have f5 : ∀ o, w6.frozen? ⟨w.heap.size + 1, o, none⟩ = false := fun o => by simp [World.frozen?, I6.out.br]
  clear hrow hrw b6 b7 S6
  go_wp2_with fail
  exact bodyPost_ret (v := exV 9 0 noB noB (some ⟨w5.heap.size, 0, none⟩) 1 1) (results_cell (i := 2) (b := w.heap.size + 1) Tryz.results167 Tryz.isAgg25 Tryz.sizeOf25 rfl rfl FN.out.1) rfl ⟨_, _, _, _, _, _, _, rfl, FN.out.2.1, FN.out.2.2⟩
set_option maxRecDepth 100000 in
set_option maxHeartbeats 2000000 in
/-- Brackets. -/
theorem factor_par {p g cap : Nat} {ts : List Tok} {f x y z : Int} {n : Nat} {E : RS → XS} (hE : Ok p g cap ts f x y z 46 E n) {s : RS} {w : World} (h : RdAt p g cap ts s w) (hG : Gl p w) (hn : leftS ts s < n + 1) (hi : isT ts s [notB] = false) (hj : isT ts s [⟨#[40]⟩] = true) :
    Calls Tryz.prog 167 #[xV p f x y z] w (XPost p g cap ts ((E (stepS s)).1, needT ts (E (stepS s)).2 [⟨#[41]⟩]) w.heap.size w) := by
  have I0 := Lib.hid (FrI.start h hG f x y z)
  have hpl := h.lt
  have hgl := h.toks.lt
  have htk := takeR_any (I0.out.alloc (.cells #[.string notB] 9)).did.rd (strs1 p _ notB (by decide) I0.out.did.rd.lt).is
  rw [show ((w.alloc (.cells (xC p f x y z) 92)).alloc (.cells (exC 0 0 ⟨#[]⟩ ⟨#[]⟩ none 0 0) 25)).heap.size = w.heap.size + 1 + 1 by simp, takeT_no hi] at htk
  have HTK := Lib.hid htk
  clear htk
  have HT2 := Lib.hid (fun (W : World) (I : FrI p g cap ts f x y z w.heap.size s w W) => takeR_any (I.alloc (.cells #[.string ⟨#[40]⟩] 9)).did.rd (strs1 p W ⟨#[40]⟩ (by decide) I.did.rd.lt).is)
  have hlt := left_stepT hj
  rw [takeT_yes hj] at HT2
  have hne := text_ne (fun h => absurd (List.mem_singleton.1 h) (by decide)) hj
  have HC := Lib.hid (fun W (RR : RdAt p g cap ts (stepS s) W) (G'' : Gl p W) => hE.call (stepS s) W RR G'' (by omega))
  clear hi hj hE h hG
  generalize E (stepS s) = R at HC ⊢
  generalize cur ts s = tk at HT2 hne
  generalize stepS s = s1 at HT2 HC hlt
  have HND := Lib.hid (fun (W : World) (RR : RdAt p g cap ts R.2 (W.alloc (.cells #[.string ⟨#[41]⟩] 9))) (hp : p < W.heap.size) => needR_any RR (strs1 p W ⟨#[41]⟩ (by decide) hp).is (fun h => absurd (List.mem_singleton.1 h) (by decide)))
  generalize needT ts R.2 [⟨#[41]⟩] = s6 at HND ⊢
  go_enter Tryz.func167, Tryz.ntmps167
  go_wp2_with fail
  refine HTK.out.mono ?_
  rintro e w1 ⟨rfl, d1⟩
  have I1 := Lib.hid ((I0.out.alloc _).next d1)
  have bx1 := box_cells I1.out.bx
  have lx1 := heap_lt I1.out.bx
  have z1 : w.heap.size + 2 ≤ w1.heap.size := heap_lt I1.out.br
  clear d1
  go_wp2_with fail
  refine (HT2.out _ I1.out).mono ?_
  rintro e w2 ⟨rfl, d2⟩
  have I2 := Lib.hid ((I1.out.alloc _).next d2)
  have bx2 := box_cells I2.out.bx
  have lx2 := heap_lt I2.out.bx
  have z2 : w.heap.size + 2 ≤ w2.heap.size := heap_lt I2.out.br
  clear d2
  go_wp2_with fail
  refine (HC.out _ I2.out.did.rd I2.out.gl).mono ?_
  rintro e w5 ⟨op5, k5, nm5, fd5, a5, len5, c5, rfl, x5, d5⟩
  have I5 := Lib.hid (I2.out.next d5)
  have IE := Lib.hid (I5.out.alloc (.cells (exC op5 k5 nm5 fd5 a5 len5 c5) 25))
  have E5 := Lib.hid (heap_new w5 (.cells (exC op5 k5 nm5 fd5 a5 len5 c5) 25))
  have X5 := Lib.hid ((x5.sub (mk_onl (.inl rfl) ((Onl.refl p w5).alloc (.cells (exC op5 k5 nm5 fd5 a5 len5 c5) 25)))).sub (mk_onl (.inl rfl) ((Onl.refl p _).alloc (.cells #[.string ⟨#[41]⟩] 9))))
  have bx5 := box_cells I5.out.bx
  have lx5 := heap_lt I5.out.bx
  have hp5 := I5.out.did.rd.lt
  have hnd := HND.out (w5.alloc (.cells (exC op5 k5 nm5 fd5 a5 len5 c5) 25)) (IE.out.alloc _).did.rd IE.out.did.rd.lt
  rw [show (w5.alloc (.cells (exC op5 k5 nm5 fd5 a5 len5 c5) 25)).heap.size = w5.heap.size + 1 by simp] at hnd
  have HN5 := Lib.hid hnd
  clear hnd x5 d5
  go_wp2_with fail
  refine HN5.out.mono ?_
  rintro e w6 ⟨⟨v6, rfl⟩, d6⟩
  have I6 := Lib.hid ((IE.out.alloc (.cells #[.string ⟨#[41]⟩] 9)).next d6)
  have hq : w5.heap.size ≠ p := by omega
  have E6 := (d6.onl.block _ hq (by simp; omega)).trans ((((Below.refl _ _).alloc (Nat.le_refl _) (.cells #[.string ⟨#[41]⟩] 9)).block _ (heap_lt E5.out)).trans E5.out)
  have FN := Lib.hid (I6.out.fin hpl hgl (X5.out.sub (mk_onl (.inl rfl) d6.onl)) z2)
  have be6 := box_cells E6
  have le6 := heap_lt E6
  have b6 := box_cells I6.out.br
  have f6 : ∀ o, w6.frozen? ⟨w.heap.size + 1, o, none⟩ = false := fun o => by simp [World.frozen?, I6.out.br]
  clear d6 E6 hq
  go_wp2_with fail
  exact bodyPost_ret (v := exV op5 k5 nm5 fd5 a5 len5 c5) (results_cell (i := 2) (b := w.heap.size + 1) Tryz.results167 Tryz.isAgg25 Tryz.sizeOf25 rfl rfl FN.out.1) rfl ⟨_, _, _, _, _, _, _, rfl, FN.out.2.1, FN.out.2.2⟩
set_option maxRecDepth 100000 in
set_option maxHeartbeats 2000000 in
/-- A name. -/
theorem factor_name {p g cap : Nat} {ts : List Tok} {f x y z : Int} {R : XS} {s : RS} {w : World} (hC : ∀ W : World, RdAt p g cap ts s W → Gl p W → Calls Tryz.prog 194 #[xV p f x y z] W (XPost p g cap ts R W.heap.size W))
    (h : RdAt p g cap ts s w) (hG : Gl p w) (hi : isT ts s [notB] = false) (hj : isT ts s [⟨#[40]⟩] = false) (hk : (cur ts s).kind = 1) :
    Calls Tryz.prog 167 #[xV p f x y z] w (XPost p g cap ts R w.heap.size w) := by
  have I0 := Lib.hid (FrI.start h hG f x y z)
  have hpl := h.lt
  have hgl := h.toks.lt
  have htk := takeR_any (I0.out.alloc (.cells #[.string notB] 9)).did.rd (strs1 p _ notB (by decide) I0.out.did.rd.lt).is
  rw [show ((w.alloc (.cells (xC p f x y z) 92)).alloc (.cells (exC 0 0 ⟨#[]⟩ ⟨#[]⟩ none 0 0) 25)).heap.size = w.heap.size + 1 + 1 by simp, takeT_no hi] at htk
  have HTK := Lib.hid htk
  clear htk
  have HT2 := Lib.hid (fun (W : World) (I : FrI p g cap ts f x y z w.heap.size s w W) => takeR_any (I.alloc (.cells #[.string ⟨#[40]⟩] 9)).did.rd (strs1 p W ⟨#[40]⟩ (by decide) I.did.rd.lt).is)
  rw [takeT_no hj] at HT2
  have HC := Lib.hid hC
  have HNX := Lib.hid (fun (W : World) (RR : RdAt p g cap ts s W) => next_any RR)
  have dk : (((cur ts s).kind : Int) == 1) = true := by simp [hk]
  clear hi hj hC h hG hk
  generalize cur ts s = tk at HNX dk
  go_enter Tryz.func167, Tryz.ntmps167
  go_wp2_with fail
  refine HTK.out.mono ?_
  rintro e w1 ⟨rfl, d1⟩
  have I1 := Lib.hid ((I0.out.alloc _).next d1)
  have bx1 := box_cells I1.out.bx
  have lx1 := heap_lt I1.out.bx
  have z1 : w.heap.size + 2 ≤ w1.heap.size := heap_lt I1.out.br
  clear d1
  go_wp2_with fail
  refine (HT2.out _ I1.out).mono ?_
  rintro e w2 ⟨rfl, d2⟩
  have I2 := Lib.hid ((I1.out.alloc _).next d2)
  have bx2 := box_cells I2.out.bx
  have lx2 := heap_lt I2.out.bx
  have z2 : w.heap.size + 2 ≤ w2.heap.size := heap_lt I2.out.br
  clear d2
  go_wp2_with fail
  refine (HNX.out _ I2.out.did.rd).mono ?_
  rintro e w3 ⟨rfl, b3⟩
  rw [tokV_eq]
  have I3 := Lib.hid (I2.out.below b3)
  have bx3 := box_cells I3.out.bx
  have lx3 := heap_lt I3.out.bx
  have z3 : w.heap.size + 2 ≤ w3.heap.size := heap_lt I3.out.br
  have hfk := field_kind tk
  clear b3
  go_wp2_with fail
  refine (HC.out _ I3.out.did.rd I3.out.gl).mono ?_
  rintro e w5 ⟨op5, k5, nm5, fd5, a5, len5, c5, rfl, x5, d5⟩
  have I5 := Lib.hid (I3.out.next d5)
  have FN := Lib.hid (I5.out.fin hpl hgl x5 z3)
  have b5 := box_cells I5.out.br
  have f5 : ∀ o, w5.frozen? ⟨w.heap.size + 1, o, none⟩ = false := fun o => by simp [World.frozen?, I5.out.br]
  clear x5 d5
  go_wp2_with fail
  exact bodyPost_ret (v := exV op5 k5 nm5 fd5 a5 len5 c5) (results_cell (i := 2) (b := w.heap.size + 1) Tryz.results167 Tryz.isAgg25 Tryz.sizeOf25 rfl rfl FN.out.1) rfl ⟨_, _, _, _, _, _, _, rfl, FN.out.2.1, FN.out.2.2⟩
set_option maxRecDepth 100000 in
set_option maxHeartbeats 2000000 in
/-- A constant. -/
theorem factor_const {p g cap : Nat} {ts : List Tok} {f x y z : Int} {R : XS} {s : RS} {w : World} (hC : ∀ W : World, RdAt p g cap ts s W → Gl p W → Calls Tryz.prog 195 #[xV p f x y z] W (XPost p g cap ts R W.heap.size W))
    (h : RdAt p g cap ts s w) (hG : Gl p w) (hi : isT ts s [notB] = false) (hj : isT ts s [⟨#[40]⟩] = false) (hk : (cur ts s).kind ≠ 1) :
    Calls Tryz.prog 167 #[xV p f x y z] w (XPost p g cap ts R w.heap.size w) := by
  have I0 := Lib.hid (FrI.start h hG f x y z)
  have hpl := h.lt
  have hgl := h.toks.lt
  have htk := takeR_any (I0.out.alloc (.cells #[.string notB] 9)).did.rd (strs1 p _ notB (by decide) I0.out.did.rd.lt).is
  rw [show ((w.alloc (.cells (xC p f x y z) 92)).alloc (.cells (exC 0 0 ⟨#[]⟩ ⟨#[]⟩ none 0 0) 25)).heap.size = w.heap.size + 1 + 1 by simp, takeT_no hi] at htk
  have HTK := Lib.hid htk
  clear htk
  have HT2 := Lib.hid (fun (W : World) (I : FrI p g cap ts f x y z w.heap.size s w W) => takeR_any (I.alloc (.cells #[.string ⟨#[40]⟩] 9)).did.rd (strs1 p W ⟨#[40]⟩ (by decide) I.did.rd.lt).is)
  rw [takeT_no hj] at HT2
  have HC := Lib.hid hC
  have HNX := Lib.hid (fun (W : World) (RR : RdAt p g cap ts s W) => next_any RR)
  have dk : (((cur ts s).kind : Int) == 1) = false := by simp; omega
  clear hi hj hC h hG hk
  generalize cur ts s = tk at HNX dk
  go_enter Tryz.func167, Tryz.ntmps167
  go_wp2_with fail
  refine HTK.out.mono ?_
  rintro e w1 ⟨rfl, d1⟩
  have I1 := Lib.hid ((I0.out.alloc _).next d1)
  have bx1 := box_cells I1.out.bx
  have lx1 := heap_lt I1.out.bx
  have z1 : w.heap.size + 2 ≤ w1.heap.size := heap_lt I1.out.br
  clear d1
  go_wp2_with fail
  refine (HT2.out _ I1.out).mono ?_
  rintro e w2 ⟨rfl, d2⟩
  have I2 := Lib.hid ((I1.out.alloc _).next d2)
  have bx2 := box_cells I2.out.bx
  have lx2 := heap_lt I2.out.bx
  have z2 : w.heap.size + 2 ≤ w2.heap.size := heap_lt I2.out.br
  clear d2
  go_wp2_with fail
  refine (HNX.out _ I2.out.did.rd).mono ?_
  rintro e w3 ⟨rfl, b3⟩
  rw [tokV_eq]
  have I3 := Lib.hid (I2.out.below b3)
  have bx3 := box_cells I3.out.bx
  have lx3 := heap_lt I3.out.bx
  have z3 : w.heap.size + 2 ≤ w3.heap.size := heap_lt I3.out.br
  have hfk := field_kind tk
  clear b3
  go_wp2_with fail
  refine (HC.out _ I3.out.did.rd I3.out.gl).mono ?_
  rintro e w5 ⟨op5, k5, nm5, fd5, a5, len5, c5, rfl, x5, d5⟩
  have I5 := Lib.hid (I3.out.next d5)
  have FN := Lib.hid (I5.out.fin hpl hgl x5 z3)
  have b5 := box_cells I5.out.br
  have f5 : ∀ o, w5.frozen? ⟨w.heap.size + 1, o, none⟩ = false := fun o => by simp [World.frozen?, I5.out.br]
  clear x5 d5
  go_wp2_with fail
  exact bodyPost_ret (v := exV op5 k5 nm5 fd5 a5 len5 c5) (results_cell (i := 2) (b := w.heap.size + 1) Tryz.results167 Tryz.isAgg25 Tryz.sizeOf25 rfl rfl FN.out.1) rfl ⟨_, _, _, _, _, _, _, rfl, FN.out.2.1, FN.out.2.2⟩
theorem factor_ok {p g cap : Nat} {ts : List Tok} {f x y z : Int} {n : Nat} {G E N C : RS → XS} (hG' : Ok p g cap ts f x y z 167 G n) (hE : Ok p g cap ts f x y z 46 E n)
    (hN : ∀ s w, RdAt p g cap ts s w → Gl p w → leftS ts s < n + 1 → (cur ts s).kind = 1 → Calls Tryz.prog 194 #[xV p f x y z] w (XPost p g cap ts (N s) w.heap.size w)) (hNm : ∀ s, leftS ts (N s).2 ≤ leftS ts s)
    (hC : ∀ s w, RdAt p g cap ts s w → Gl p w → Calls Tryz.prog 195 #[xV p f x y z] w (XPost p g cap ts (C s) w.heap.size w)) (hCm : ∀ s, leftS ts (C s).2 ≤ leftS ts s) :
    Ok p g cap ts f x y z 167 (factF ts G E N C) (n + 1) := by
  refine ⟨fun s w h hG hn => ?_, fun s => ?_⟩
  · unfold factF
    cases hi : isT ts s [notB] with
    | true => rw [if_pos rfl]; exact factor_not hG' h hG hn hi
    | false =>
      rw [if_neg (by decide)]
      cases hj : isT ts s [⟨#[40]⟩] with
      | true => rw [if_pos rfl]; exact factor_par hE h hG hn hi hj
      | false =>
        rw [if_neg (by decide)]
        by_cases hk : (cur ts s).kind = 1
        · rw [if_pos hk]; exact factor_name (fun W RR G'' => hN s W RR G'' hn hk) h hG hi hj hk
        · rw [if_neg hk]; exact factor_const (fun W RR G'' => hC s W RR G'') h hG hi hj hk
  · unfold factF
    cases hi : isT ts s [notB] with
    | true => rw [if_pos rfl]; exact Nat.le_trans (hG'.mono _) (Nat.le_of_lt (left_stepT hi))
    | false =>
      rw [if_neg (by decide)]
      cases hj : isT ts s [⟨#[40]⟩] with
      | true => rw [if_pos rfl]; exact Nat.le_trans (left_needT ts _ _) (Nat.le_trans (hE.mono _) (Nat.le_of_lt (left_stepT hj)))
      | false =>
        rw [if_neg (by decide)]
        split
        · exact hNm s
        · exact hCm s
end Go.Proofs.YtpcldpnaljheoaaGreatDoor
end
