/-
  The checker's small functions: walked.
-/
import Derived.Test.YtciijpahjjoppaaGreatEmp
import Derived.Test.YtciijpahjjoppaaGreatAlb
import Derived.Test.YtciijpahjjoppaaGreatBxj
namespace Go.Proofs.YtciijpahjjoppaaGreat
open Go.RowKit Go.Deep Go.Maps

def wthn (n a b : Int) : Bool := decide (a ≤ n) && decide (n ≤ b)
theorem within_any (n a b : Int) (w : World) : Calls Tryz.prog 100 #[.int .i64 n, .int .i64 a, .int .i64 b] w fun e w' => e = .returned (.bool (wthn n a b)) ∧ w = w' := by
  unfold wthn
  cases h0 : decide (a ≤ n) <;> cases h1 : decide (n ≤ b) <;>
  · go_enter Tryz.func100, Tryz.ntmps100
    go_wp2_with fail
    go_ret
    exact ⟨rfl, rfl⟩
theorem tooDeep_any (d ar : Int) (w : World) : Calls Tryz.prog 60 #[.agg #[.int .i64 d, .int .i64 ar]] w fun e w' => e = .returned (.bool (decide ((48 : Int) ≤ ar))) ∧ w' = w.alloc (.cells #[.int .i64 d, .int .i64 ar] 51) := by
  cases h0 : decide ((48 : Int) ≤ ar) <;>
  · go_enter Tryz.func60, Tryz.ntmps60
    go_wp2_with fail
    go_ret
    exact ⟨rfl, rfl⟩
theorem deeper_any (d : Int) (ar : Nat) (w : World) (har : ar < 100000) : Calls Tryz.prog 65 #[.agg #[.int .i64 d, .int .i64 ar]] w fun e w' => e = .returned (.agg #[.int .i64 d, .int .i64 ((ar + 1 : Nat) : Int)]) ∧ Below w.heap.size w w' := by
  have R1 := Lib.hid (((Below.refl w.heap.size w).alloc (Nat.le_refl _) (.cells #[.int .i64 d, .int .i64 ar] 51)).alloc (by simp) (.cells #[.int .i64 d, .int .i64 ((ar + 1 : Nat) : Int)] 51))
  go_enter Tryz.func65, Tryz.ntmps65
  go_wp2_with fail
  refine bodyPost_ret (v := .agg ⟨[.int .i64 d, .int .i64 ((ar : Int) + 1)]⟩) ?_ rfl ?_
  · exact results_cell (i := 2) (b := w.heap.size + 1) Tryz.results65 Tryz.isAgg51 Tryz.sizeOf51 rfl rfl (by simpa using heap_new (w.alloc (.cells #[.int .i64 d, .int .i64 ar] 51)) (.cells #[.int .i64 d, .int .i64 ((ar : Int) + 1)] 51))
  · exact ⟨rfl, R1.out⟩
def nameW (d : Int) (k : Bool) (s : ByteArray) : Bool := if k then okName d s else s.toList.isEmpty
set_option maxRecDepth 100000 in
set_option maxHeartbeats 1000000 in
theorem nameWhere_any (d ar : Int) (k : Bool) (s : ByteArray) (w : World) (hs : s.size ≤ maxLen) : Calls Tryz.prog 63 #[.agg #[.int .i64 d, .int .i64 ar], .bool k, .string s] w fun e w' => e = .returned (.bool (nameW d k s)) ∧ Below w.heap.size w w' := by
  have R1 := Lib.hid ((Below.refl w.heap.size w).alloc (Nat.le_refl _) (.cells #[.int .i64 d, .int .i64 ar] 51))
  cases k with
  | true =>
    rw [show nameW d true s = okName d s from rfl]
    go_enter Tryz.func63, Tryz.ntmps63
    go_wp2_with fail
    refine (cname_any d ar s _ hs).mono ?_
    rintro e w1 ⟨rfl, b1⟩
    have B1 := Lib.hid (R1.out.trans (b1.mono (by simp)))
    clear b1
    generalize hr : okName d s = r
    go_wp2_with fail
    go_ret
    exact ⟨by rw [hr]; rfl, B1.out⟩
  | false =>
    rw [show nameW d false s = s.toList.isEmpty from rfl]
    go_enter Tryz.func63, Tryz.ntmps63
    go_wp2_with fail
    go_ret
    exact ⟨rfl, R1.out⟩
theorem results_cell2 {fn : Func} {tmps : Array Value} {w : World} {i j : Nat} {T : TypeId} {k : Nat} (hres : fn.results = #[.cell i T, .tmp j]) (hag : ∀ w, (isAgg T).run Tryz.prog w = .ok true w) (hsz : ∀ w, (sizeOf T).run Tryz.prog w = .ok k w) {b : Nat} (ht : tmps.getD i undef = .pointer (some ⟨b, 0, none⟩)) {vs : List Value} {T' : TypeId} {fz : Nat × Nat} (hlen : vs.length = k) (hb : w.heap[b]? = some (.cells ⟨vs⟩ T' fz)) {u : Value} (hu : tmps.getD j undef = u) :
    (results fn tmps).run Tryz.prog w = .ok (.tuple #[.agg ⟨vs⟩, u]) w := by
  have h := run_loadCells_list (P := Tryz.prog) (w := w) ⟨b, 0, none⟩ vs (fun j v hv => by
    rw [add_mid2, Nat.zero_add, box_cells hb]
    simpa using hv)
  rw [hlen] at h
  rw [Array.getD_eq_getD_getElem?] at ht hu
  unfold results
  simp [hres, ht, hu, loadVar, asAddr, hag, hsz, h, Sem.run_bind]
def fmost (op : Int) : Int := if op = 1 then 9223372036854775807 else if op = 2 then 1 else if op = 3 then 255 else 0
def fname (op : Int) : Bool := decide (op = 4 ∨ op = 5 ∨ op = 6)
def ffield (op : Int) : Bool := decide (op = 6)
def fops (op : Int) : Int := if op = 1 ∨ op = 2 ∨ op = 3 ∨ op = 4 ∨ op = 6 then 0 else if op = 5 ∨ op = 8 ∨ op = 9 then 1 else 2
def fok (op : Int) : Bool := decide (op = 1 ∨ op = 2 ∨ op = 3 ∨ op = 4 ∨ op = 5 ∨ op = 6 ∨ op = 8 ∨ op = 9) || wthn op 10 24
def FormPost (op : Int) (w : World) (e : Ending) (w' : World) : Prop := e = .returned (.tuple #[.agg #[.int .i64 (fmost op), .bool (fname op), .bool (ffield op), .int .i64 (fops op)], .bool (fok op)]) ∧ Below w.heap.size w w'
set_option maxRecDepth 100000 in
theorem exprForm_1 (w : World) : Calls Tryz.prog 62 #[.int .i64 1] w (FormPost 1 w) := by
  have R1 := Lib.hid ((Below.refl w.heap.size w).alloc (Nat.le_refl _) (.cells #[.int .i64 (fmost 1), .bool (fname 1), .bool (ffield 1), .int .i64 (fops 1)] 110))
  go_enter Tryz.func62, Tryz.ntmps62
  go_wp2_with fail
  refine bodyPost_ret (v := .tuple #[.agg ⟨[.int .i64 (fmost 1), .bool (fname 1), .bool (ffield 1), .int .i64 (fops 1)]⟩, .bool true]) ?_ rfl ?_
  · exact results_cell2 (i := 2) (j := 3) (b := w.heap.size) Tryz.results62 Tryz.isAgg110 Tryz.sizeOf110 rfl rfl (heap_new w (.cells #[.int .i64 (fmost 1), .bool (fname 1), .bool (ffield 1), .int .i64 (fops 1)] 110)) rfl
  · exact ⟨rfl, R1.out⟩
set_option maxRecDepth 100000 in
theorem exprForm_2 (w : World) : Calls Tryz.prog 62 #[.int .i64 2] w (FormPost 2 w) := by
  have R1 := Lib.hid ((Below.refl w.heap.size w).alloc (Nat.le_refl _) (.cells #[.int .i64 (fmost 2), .bool (fname 2), .bool (ffield 2), .int .i64 (fops 2)] 110))
  go_enter Tryz.func62, Tryz.ntmps62
  go_wp2_with fail
  refine bodyPost_ret (v := .tuple #[.agg ⟨[.int .i64 (fmost 2), .bool (fname 2), .bool (ffield 2), .int .i64 (fops 2)]⟩, .bool true]) ?_ rfl ?_
  · exact results_cell2 (i := 2) (j := 3) (b := w.heap.size) Tryz.results62 Tryz.isAgg110 Tryz.sizeOf110 rfl rfl (heap_new w (.cells #[.int .i64 (fmost 2), .bool (fname 2), .bool (ffield 2), .int .i64 (fops 2)] 110)) rfl
  · exact ⟨rfl, R1.out⟩
set_option maxRecDepth 100000 in
theorem exprForm_3 (w : World) : Calls Tryz.prog 62 #[.int .i64 3] w (FormPost 3 w) := by
  have R1 := Lib.hid ((Below.refl w.heap.size w).alloc (Nat.le_refl _) (.cells #[.int .i64 (fmost 3), .bool (fname 3), .bool (ffield 3), .int .i64 (fops 3)] 110))
  go_enter Tryz.func62, Tryz.ntmps62
  go_wp2_with fail
  refine bodyPost_ret (v := .tuple #[.agg ⟨[.int .i64 (fmost 3), .bool (fname 3), .bool (ffield 3), .int .i64 (fops 3)]⟩, .bool true]) ?_ rfl ?_
  · exact results_cell2 (i := 2) (j := 3) (b := w.heap.size) Tryz.results62 Tryz.isAgg110 Tryz.sizeOf110 rfl rfl (heap_new w (.cells #[.int .i64 (fmost 3), .bool (fname 3), .bool (ffield 3), .int .i64 (fops 3)] 110)) rfl
  · exact ⟨rfl, R1.out⟩
set_option maxRecDepth 100000 in
theorem exprForm_4 (w : World) : Calls Tryz.prog 62 #[.int .i64 4] w (FormPost 4 w) := by
  have R1 := Lib.hid ((Below.refl w.heap.size w).alloc (Nat.le_refl _) (.cells #[.int .i64 (fmost 4), .bool (fname 4), .bool (ffield 4), .int .i64 (fops 4)] 110))
  go_enter Tryz.func62, Tryz.ntmps62
  go_wp2_with fail
  refine bodyPost_ret (v := .tuple #[.agg ⟨[.int .i64 (fmost 4), .bool (fname 4), .bool (ffield 4), .int .i64 (fops 4)]⟩, .bool true]) ?_ rfl ?_
  · exact results_cell2 (i := 2) (j := 3) (b := w.heap.size) Tryz.results62 Tryz.isAgg110 Tryz.sizeOf110 rfl rfl (heap_new w (.cells #[.int .i64 (fmost 4), .bool (fname 4), .bool (ffield 4), .int .i64 (fops 4)] 110)) rfl
  · exact ⟨rfl, R1.out⟩
set_option maxRecDepth 100000 in
theorem exprForm_5 (w : World) : Calls Tryz.prog 62 #[.int .i64 5] w (FormPost 5 w) := by
  have R1 := Lib.hid ((Below.refl w.heap.size w).alloc (Nat.le_refl _) (.cells #[.int .i64 (fmost 5), .bool (fname 5), .bool (ffield 5), .int .i64 (fops 5)] 110))
  go_enter Tryz.func62, Tryz.ntmps62
  go_wp2_with fail
  refine bodyPost_ret (v := .tuple #[.agg ⟨[.int .i64 (fmost 5), .bool (fname 5), .bool (ffield 5), .int .i64 (fops 5)]⟩, .bool true]) ?_ rfl ?_
  · exact results_cell2 (i := 2) (j := 3) (b := w.heap.size) Tryz.results62 Tryz.isAgg110 Tryz.sizeOf110 rfl rfl (heap_new w (.cells #[.int .i64 (fmost 5), .bool (fname 5), .bool (ffield 5), .int .i64 (fops 5)] 110)) rfl
  · exact ⟨rfl, R1.out⟩
set_option maxRecDepth 100000 in
theorem exprForm_6 (w : World) : Calls Tryz.prog 62 #[.int .i64 6] w (FormPost 6 w) := by
  have R1 := Lib.hid ((Below.refl w.heap.size w).alloc (Nat.le_refl _) (.cells #[.int .i64 (fmost 6), .bool (fname 6), .bool (ffield 6), .int .i64 (fops 6)] 110))
  go_enter Tryz.func62, Tryz.ntmps62
  go_wp2_with fail
  refine bodyPost_ret (v := .tuple #[.agg ⟨[.int .i64 (fmost 6), .bool (fname 6), .bool (ffield 6), .int .i64 (fops 6)]⟩, .bool true]) ?_ rfl ?_
  · exact results_cell2 (i := 2) (j := 3) (b := w.heap.size) Tryz.results62 Tryz.isAgg110 Tryz.sizeOf110 rfl rfl (heap_new w (.cells #[.int .i64 (fmost 6), .bool (fname 6), .bool (ffield 6), .int .i64 (fops 6)] 110)) rfl
  · exact ⟨rfl, R1.out⟩
set_option maxRecDepth 100000 in
theorem exprForm_8 (w : World) : Calls Tryz.prog 62 #[.int .i64 8] w (FormPost 8 w) := by
  have R1 := Lib.hid ((Below.refl w.heap.size w).alloc (Nat.le_refl _) (.cells #[.int .i64 (fmost 8), .bool (fname 8), .bool (ffield 8), .int .i64 (fops 8)] 110))
  go_enter Tryz.func62, Tryz.ntmps62
  go_wp2_with fail
  refine bodyPost_ret (v := .tuple #[.agg ⟨[.int .i64 (fmost 8), .bool (fname 8), .bool (ffield 8), .int .i64 (fops 8)]⟩, .bool true]) ?_ rfl ?_
  · exact results_cell2 (i := 2) (j := 3) (b := w.heap.size) Tryz.results62 Tryz.isAgg110 Tryz.sizeOf110 rfl rfl (heap_new w (.cells #[.int .i64 (fmost 8), .bool (fname 8), .bool (ffield 8), .int .i64 (fops 8)] 110)) rfl
  · exact ⟨rfl, R1.out⟩
set_option maxRecDepth 100000 in
theorem exprForm_9 (w : World) : Calls Tryz.prog 62 #[.int .i64 9] w (FormPost 9 w) := by
  have R1 := Lib.hid ((Below.refl w.heap.size w).alloc (Nat.le_refl _) (.cells #[.int .i64 (fmost 9), .bool (fname 9), .bool (ffield 9), .int .i64 (fops 9)] 110))
  go_enter Tryz.func62, Tryz.ntmps62
  go_wp2_with fail
  refine bodyPost_ret (v := .tuple #[.agg ⟨[.int .i64 (fmost 9), .bool (fname 9), .bool (ffield 9), .int .i64 (fops 9)]⟩, .bool true]) ?_ rfl ?_
  · exact results_cell2 (i := 2) (j := 3) (b := w.heap.size) Tryz.results62 Tryz.isAgg110 Tryz.sizeOf110 rfl rfl (heap_new w (.cells #[.int .i64 (fmost 9), .bool (fname 9), .bool (ffield 9), .int .i64 (fops 9)] 110)) rfl
  · exact ⟨rfl, R1.out⟩
set_option maxRecDepth 100000 in
set_option maxHeartbeats 1000000 in
theorem exprForm_no (op : Int) (w : World) (h1 : op ≠ 1) (h2 : op ≠ 2) (h3 : op ≠ 3) (h4 : op ≠ 4) (h5 : op ≠ 5) (h6 : op ≠ 6) (h8 : op ≠ 8) (h9 : op ≠ 9) : Calls Tryz.prog 62 #[.int .i64 op] w (FormPost op w) := by
  have HF := Lib.hid (show FormPost op w = fun e w' => e = .returned (.tuple #[.agg #[.int .i64 0, .bool false, .bool false, .int .i64 2], .bool (wthn op 10 24)]) ∧ Below w.heap.size w w' by
    unfold FormPost fmost fname ffield fops fok
    simp [h1, h2, h3, h4, h5, h6, h8, h9])
  have b1 : (op == 1) = false := by simpa using h1
  have b2 : (op == 2) = false := by simpa using h2
  have b3 : (op == 3) = false := by simpa using h3
  have b4 : (op == 4) = false := by simpa using h4
  have b5 : (op == 5) = false := by simpa using h5
  have b6 : (op == 6) = false := by simpa using h6
  have b8 : (op == 8) = false := by simpa using h8
  have b9 : (op == 9) = false := by simpa using h9
  clear h1 h2 h3 h4 h5 h6 h8 h9
  have R1 := Lib.hid ((Below.refl w.heap.size w).alloc (Nat.le_refl _) (.cells #[.int .i64 0, .bool false, .bool false, .int .i64 2] 110))
  rw [HF.out]
  go_enter Tryz.func62, Tryz.ntmps62
  go_wp2_with fail
  refine (within_any op 10 24 _).mono ?_
  rintro e w1 ⟨rfl, rfl⟩
  generalize hr : wthn op 10 24 = r
  go_wp2_with fail
  refine bodyPost_ret (v := .tuple #[.agg ⟨[.int .i64 0, .bool false, .bool false, .int .i64 2]⟩, .bool r]) ?_ rfl ?_
  · exact results_cell2 (i := 2) (j := 3) (b := w.heap.size) Tryz.results62 Tryz.isAgg110 Tryz.sizeOf110 rfl rfl (heap_new w (.cells #[.int .i64 0, .bool false, .bool false, .int .i64 2] 110)) rfl
  · exact ⟨by rw [hr], R1.out⟩
theorem exprForm_any (op : Int) (w : World) : Calls Tryz.prog 62 #[.int .i64 op] w (FormPost op w) := by
  by_cases h1 : op = 1
  · rw [h1]; exact exprForm_1 w
  by_cases h2 : op = 2
  · rw [h2]; exact exprForm_2 w
  by_cases h3 : op = 3
  · rw [h3]; exact exprForm_3 w
  by_cases h4 : op = 4
  · rw [h4]; exact exprForm_4 w
  by_cases h5 : op = 5
  · rw [h5]; exact exprForm_5 w
  by_cases h6 : op = 6
  · rw [h6]; exact exprForm_6 w
  by_cases h8 : op = 8
  · rw [h8]; exact exprForm_8 w
  by_cases h9 : op = 9
  · rw [h9]; exact exprForm_9 w
  exact exprForm_no op w h1 h2 h3 h4 h5 h6 h8 h9
end Go.Proofs.YtciijpahjjoppaaGreat
