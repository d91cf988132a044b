/-
  Texts of this proof, put together.
-/
import Derived.Test.YtciijpahjjoppaaGreatPb4
import Derived.Deep.MidRow
section
namespace Go.Proofs.YtciijpahjjoppaaGreat
open Go.RowKit Go.Deep Go.Maps

theorem At.slTake {w : World} {a : Option Addr} {len cap : Nat} {l : List (List D)} (h : At w (.slice a len cap) (.row l)) (u : Nat) (hu : u ≤ len) : ∃ a1, sliced a 0 u cap 5 = .slice a1 u cap ∧ At w (.slice a1 u cap) (.row (l.take u)) := by
  cases h with
  | nil a cap hc =>
    obtain rfl : u = 0 := by omega
    exact ⟨(if cap = 0 then a else a.map (·.add (0 * 5))), rfl, .nil _ _ hc⟩
  | row b o len cap k _ cs h1 h2 h3 h4 h5 h6 h7 h8 =>
    refine ⟨some ⟨b, o, none⟩, ?_, ?_⟩
    · unfold sliced
      by_cases hc : cap = 0 <;> simp [hc, Addr.add]
    · refine .row b o u cap k _ cs (by rw [List.length_take, h1]; omega) (by omega) h3 h4 (fun j hj => h5 j (by omega)) (fun j ds hj => ?_) (fun j i v hj hv => h7 j i v (by omega) hv) (fun j i ds v dd hj hv hd => ?_)
      · rw [List.getElem?_take] at hj
        split at hj
        · exact h6 j ds hj
        · cases hj
      · rw [List.getElem?_take] at hj
        split at hj
        · exact h8 j i ds v dd hj hv hd
        · cases hj
theorem At.slDrop {w : World} {a : Option Addr} {len cap : Nat} {l : List (List D)} (h : At w (.slice a len cap) (.row l)) (hl : ∀ x ∈ l, x.length = 5) (u : Nat) (hu : u ≤ len) : ∃ a2, sliced a u len cap 5 = .slice a2 (len - u) (cap - u) ∧ At w (.slice a2 (len - u) (cap - u)) (.row (l.drop u)) := by
  have e := h.len_eq
  by_cases hz : u = len
  · subst hz
    have hd : l.drop u = [] := List.drop_eq_nil_of_le (by omega)
    rw [hd, Nat.sub_self]
    exact ⟨_, by unfold sliced; rw [Nat.sub_self], .nil _ _ (by omega)⟩
  · cases h with
    | nil a cap hc => omega
    | row b o len cap k _ cs h1 h2 h3 h4 h5 h6 h7 h8 =>
      have hk : k = 5 := by
        have hx : l[0]? = some (l[0]'(by omega)) := List.getElem?_eq_getElem (by omega)
        rw [← h6 0 _ hx]
        exact hl _ (List.mem_of_getElem? hx)
      subst hk
      refine ⟨some ⟨b, o + u * 5, none⟩, ?_, ?_⟩
      · unfold sliced
        rw [if_neg (by omega), Option.map_some, add_mid2]
      · refine .row b (o + u * 5) (len - u) (cap - u) 5 _ (fun j => cs (u + j)) (by rw [List.length_drop, h1]) (by omega) (by omega) h4 (fun j hj => h5 (u + j) (by omega)) (fun j ds hj => ?_) (fun j i v hj hv => ?_) (fun j i ds v dd hj hv hd => ?_)
        · rw [List.getElem?_drop] at hj
          exact h6 _ ds hj
        · have := h7 (u + j) i v (by omega) hv
          rwa [show o + (u + j) * 5 + i = o + u * 5 + j * 5 + i by omega] at this
        · rw [List.getElem?_drop] at hj
          exact h8 _ i ds v dd hj hv hd
theorem okfn_up (w0 : World) (d ar : Int) (l : List (List D)) (hs : ∀ x ∈ l, ShE x) : OkFn w0 99 (.agg #[.int .i64 d, .int .i64 ar]) l (upD d) := fun x hx vs hv W _ => by
  obtain ⟨op, n, nm, fd, kl, kla, klc, rfl, rfl, _, _, hnm, _, _, _⟩ := hv.openE (hs x hx)
  exact up_any d ar op n nm fd kla kl.length klc W hnm
theorem ShE.len5 {x : List D} (h : ShE x) : x.length = 5 := by cases h; rfl
theorem run_sliceH {a : Act} {o : Oper} {x y : Operand} (ho : o.op = .slice 22 x none (some y) none) {la : Option Addr} {len cap u : Nat} (hx : a.eval x = .slice la len cap) (hy : a.eval y = .int .i64 (u : Nat)) (h0 : (0 : Int) ≤ (u : Int)) (h1 : (u : Int) ≤ (cap : Int)) {v : Value} (e : sliced la 0 u cap 5 = v) (w : World) : (execOp a.eval o).run Tryz.prog w = .ok (.value v) w := by
  rw [← e]
  unfold execOp
  simp only [ho, Option.map_some, Option.map_none, hx, hy]
  go_simp
theorem run_sliceL {a : Act} {o : Oper} {x y : Operand} (ho : o.op = .slice 22 x (some y) none none) {la : Option Addr} {len cap u : Nat} (hx : a.eval x = .slice la len cap) (hy : a.eval y = .int .i64 (u : Nat)) (h0 : (0 : Int) ≤ (u : Int)) (h1 : (u : Int) ≤ (len : Int)) {v : Value} (e : sliced la u len cap 5 = v) (w : World) : (execOp a.eval o).run Tryz.prog w = .ok (.value v) w := by
  rw [← e]
  unfold execOp
  simp only [ho, Option.map_some, Option.map_none, hx, hy]
  go_simp
def CaS (w : World) (d : Int) (ar : Nat) (op n : Int) (nm fd : ByteArray) (la : Option Addr) (l : List (List D)) (lc : Nat) (W : World) : Prop := W.cell? ⟨w.heap.size, 0, none⟩ = some (.int .i64 d) ∧ W.cell? ⟨w.heap.size, 1, none⟩ = some (.int .i64 ar) ∧ W.cell? ⟨w.heap.size + 1, 0, none⟩ = some (.int .i64 op) ∧ W.cell? ⟨w.heap.size + 1, 1, none⟩ = some (.int .i64 n) ∧ W.cell? ⟨w.heap.size + 1, 2, none⟩ = some (.string nm) ∧ W.cell? ⟨w.heap.size + 1, 3, none⟩ = some (.string fd) ∧ W.cell? ⟨w.heap.size + 1, 4, none⟩ = some (.slice la l.length lc) ∧ Since w W
theorem CaS.step {w : World} {d : Int} {ar : Nat} {op n : Int} {nm fd : ByteArray} {la : Option Addr} {l : List (List D)} {lc : Nat} {W W' : World} (h : CaS w d ar op n nm fd la l lc W) (b : Below W.heap.size W W') : CaS w d ar op n nm fd la l lc W' := by
  obtain ⟨h1, h2, h3, h4, h5, h6, h7, h8⟩ := h
  exact ⟨cell_stays h1 b, cell_stays h2 b, cell_stays h3 b, cell_stays h4 b, cell_stays h5 b, cell_stays h6 b, cell_stays h7 b, h8.step b⟩
set_option maxRecDepth 100000 in
set_option maxHeartbeats 4000000 in
theorem call_form (w0 : World) (d : Int) (ar k : Nat) (hk : ar + (k + 1) = 48) (op n : Int) (nm fd : ByteArray) (la : Option Addr) (l : List (List D)) (lc : Nat) (hnm : nm.size ≤ maxLen) (hA : At w0 (.slice la l.length lc) (.row l)) (hs : ∀ x ∈ l, ShE x)
    (hf : OkFn w0 25 (.agg #[.int .i64 d, .int .i64 ((ar + 1 : Nat) : Int)]) l (okE d k)) (w : World) (hW : Below w0.heap.size w0 w) :
    Calls Tryz.prog 61 #[.agg #[.int .i64 d, .int .i64 ar], .agg #[.int .i64 op, .int .i64 n, .string nm, .string fd, .slice la l.length lc]] w fun e w' => e = .returned (.bool (callE d n nm fd l (okE d k))) ∧ Below w.heap.size w w' := by
  have KP := Lib.hid (box_first w (.cells #[.int .i64 d, .int .i64 ar] 51) (.cells #[.int .i64 op, .int .i64 n, .string nm, .string fd, .slice la l.length lc] 24))
  have KQ := Lib.hid (box_second w (.cells #[.int .i64 d, .int .i64 ar] 51) (.cells #[.int .i64 op, .int .i64 n, .string nm, .string fd, .slice la l.length lc] 24))
  have R0 := Lib.hid (((Below.refl w.heap.size w).alloc (Nat.le_refl _) (.cells #[.int .i64 d, .int .i64 ar] 51)).alloc (by simp) (.cells #[.int .i64 op, .int .i64 n, .string nm, .string fd, .slice la l.length lc] 24))
  have HW := Lib.hid hW
  have hue := firstU_le d l
  have hlc := hA.len_eq.2
  have HO := Lib.hid (show callE d n nm fd l (okE d k) = ((n == 0) && (fd.toList.isEmpty && (okR d nm && (decide (((l.length : Nat) : Int) ≤ 512) && (okAll (l.take (firstU d l)) (okE d k) && okAll (l.drop (firstU d l)) (upD d)))))) by unfold callE; rw [show decide (l.length ≤ 512) = decide (((l.length : Nat) : Int) ≤ 512) from decide_eq_decide.2 (by omega)])
  have FU := Lib.hid (firstUp_any w0 d ar la l.length lc l hA hs _ (HW.out.trans (R0.out.mono HW.out.size)))
  generalize hu : firstU d l = u at *
  obtain ⟨a1, e1, A1⟩ := hA.slTake u hue
  obtain ⟨a2, e2, A2⟩ := hA.slDrop (fun x hx => (hs x hx).len5) u hue
  have L1 := Lib.hid (fun (W : World) (hW : Below w0.heap.size w0 W) => allE_any w0 25 (.agg #[.int .i64 d, .int .i64 ((ar + 1 : Nat) : Int)]) (okE d k) a1 u lc (l.take u) A1 (fun x hx => hs x (List.mem_of_mem_take hx)) (fun x hx => hf x (List.mem_of_mem_take hx)) (enters_of Tryz.func25 (by kernel_rfl) rfl) W hW)
  have L2 := Lib.hid (fun (W : World) (hW : Below w0.heap.size w0 W) => allE_any w0 99 (.agg #[.int .i64 d, .int .i64 ar]) (upD d) a2 (l.length - u) (lc - u) (l.drop u) A2 (fun x hx => hs x (List.mem_of_mem_drop hx)) (okfn_up w0 d ar _ (fun x hx => hs x (List.mem_of_mem_drop hx))) (enters_of Tryz.func99 (by kernel_rfl) rfl) W hW)
  have E1 := Lib.hid e1
  have E2 := Lib.hid e2
  clear hA hs hf hW A1 A2 e1 e2
  generalize okAll (l.take u) (okE d k) = r1 at *
  generalize okAll (l.drop u) (upD d) = r2 at *
  go_enter Tryz.func61, Tryz.ntmps61
  go_wp2_with fail
  refine FU.out.mono ?_
  rintro e w2 ⟨rfl, b2⟩
  have R2 := Lib.hid (R0.out.trans (b2.mono R0.out.size))
  have KP2 := Lib.hid ((b2.block _ (heap_lt KP.out)).trans KP.out)
  have KQ2 := Lib.hid ((b2.block _ (heap_lt KQ.out)).trans KQ.out)
  have cP2 := box_cells KP2.out
  have cQ2 := box_cells KQ2.out
  clear b2
  go_wp2_with fail
  have S0 := Lib.hid (show CaS w d ar op n nm fd la l lc w2.drew from ⟨cP2 0, cP2 1, cQ2 0, cQ2 1, cQ2 2, cQ2 3, cQ2 4, below_drew0 R2.out⟩)
  have DP := Lib.hid (show ∀ W, CaS w d ar op n nm fd la l lc W → Calls Tryz.prog 65 #[.agg #[.int .i64 d, .int .i64 ar]] W fun e W' => e = .returned (.agg #[.int .i64 d, .int .i64 ((ar + 1 : Nat) : Int)]) ∧ CaS w d ar op n nm fd la l lc W' from fun W hS => (deeper_any d ar W (by omega)).mono fun e W' h => ⟨h.1, hS.step h.2⟩)
  have RN := Lib.hid (show ∀ W, CaS w d ar op n nm fd la l lc W → Calls Tryz.prog 98 #[.agg #[.int .i64 d, .int .i64 ar], .string nm] W fun e W' => e = .returned (.bool (okR d nm)) ∧ CaS w d ar op n nm fd la l lc W' from fun W hS => (rname_any d ar nm W hnm).mono fun e W' h => ⟨h.1, hS.step h.2⟩)
  have A1 := Lib.hid (show ∀ W, CaS w d ar op n nm fd la l lc W → Calls Tryz.prog 64 #[.slice a1 u lc, .func (.func 25) #[.agg #[.int .i64 d, .int .i64 ((ar + 1 : Nat) : Int)]] #[]] W fun e W' => e = .returned (.bool r1) ∧ CaS w d ar op n nm fd la l lc W' from fun W hS => (L1.out W (HW.out.trans (Below.mono hS.2.2.2.2.2.2.2 HW.out.size))).mono fun e W' h => ⟨h.1, hS.step h.2⟩)
  have A2 := Lib.hid (show ∀ W, CaS w d ar op n nm fd la l lc W → Calls Tryz.prog 64 #[.slice a2 (l.length - u) (lc - u), .func (.func 99) #[.agg #[.int .i64 d, .int .i64 ar]] #[]] W fun e W' => e = .returned (.bool r2) ∧ CaS w d ar op n nm fd la l lc W' from fun W hS => (L2.out W (HW.out.trans (Below.mono hS.2.2.2.2.2.2.2 HW.out.size))).mono fun e W' h => ⟨h.1, hS.step h.2⟩)
  have hu0 : (0 : Int) ≤ (u : Int) := by omega
  have hu1 : (u : Int) ≤ (lc : Int) := by omega
  have hu2 : (u : Int) ≤ (l.length : Int) := by omega
  clear L1 L2 HW KP KQ R0 R2 KP2 KQ2 cP2 cQ2 FU hue hlc hk
  generalize hrn : okR d nm = rn at *
  clear hrn hu
  refine wp_region_held (S := fun w' => w'.cell? ⟨w.heap.size, 0, none⟩ = some (.int .i64 d) ∧ w'.cell? ⟨w.heap.size, 1, none⟩ = some (.int .i64 ar) ∧ w'.cell? ⟨w.heap.size + 1, 0, none⟩ = some (.int .i64 op) ∧ w'.cell? ⟨w.heap.size + 1, 1, none⟩ = some (.int .i64 n) ∧ w'.cell? ⟨w.heap.size + 1, 2, none⟩ = some (.string nm) ∧ w'.cell? ⟨w.heap.size + 1, 3, none⟩ = some (.string fd) ∧ w'.cell? ⟨w.heap.size + 1, 4, none⟩ = some (.slice la l.length lc) ∧ Since w w') (by kernel_rfl) ?_
  have hHeld := S0.out
  change (fun w' => w'.cell? ⟨w.heap.size, 0, none⟩ = some (.int .i64 d) ∧ w'.cell? ⟨w.heap.size, 1, none⟩ = some (.int .i64 ar) ∧ w'.cell? ⟨w.heap.size + 1, 0, none⟩ = some (.int .i64 op) ∧ w'.cell? ⟨w.heap.size + 1, 1, none⟩ = some (.int .i64 n) ∧ w'.cell? ⟨w.heap.size + 1, 2, none⟩ = some (.string nm) ∧ w'.cell? ⟨w.heap.size + 1, 3, none⟩ = some (.string fd) ∧ w'.cell? ⟨w.heap.size + 1, 4, none⟩ = some (.slice la l.length lc) ∧ Since w w') _ at hHeld
  refine wpAnyH_take (i := 0) (oi := ⟨some 10, .fieldAddr 24 (.tmp 3) 1, 0, "check.go:258", #[], none⟩) (v := ?v0_1) rfl (by kernel_rfl) (by kernel_rfl) (by kernel_rfl) (fun _ _ _ h => h) (Or.inl ⟨by rfl, ?hy0_1⟩) hHeld ?rest0_1
  case hy0_1 => (intro W hSW; (try dsimp only at hSW); go_simp; try with_reducible rfl)
  try simp only [Act.put, List.setIfInBounds_toArray, List.set_cons_zero, List.set_cons_succ]
  refine wpAnyH_take (i := 1) (oi := ⟨some 11, .load 2 (.tmp 10), 2, "check.go:258", #[⟨0, .data⟩], none⟩) (v := ?v1_2) rfl (by kernel_rfl) (by kernel_rfl) (by kernel_rfl) (fun _ _ _ h => h) (Or.inl ⟨by rfl, ?hy1_2⟩) hHeld ?rest1_2
  case hy1_2 => (intro W hSW; (try dsimp only at hSW); go_simp; try with_reducible rfl)
  try simp only [Act.put, List.setIfInBounds_toArray, List.set_cons_zero, List.set_cons_succ]
  cases hn0 : n == 0 with
  | false =>
    refine wpAnyH_take (i := 2) (oi := ⟨some 12, .binOp .eql 2 (.tmp 11) (.const (.int .i64 0)) 2, 4, "check.go:258", #[⟨1, .data⟩], none⟩) (v := ?v2_3) rfl (by kernel_rfl) (by kernel_rfl) (by kernel_rfl) (fun _ _ _ h => h) (Or.inl ⟨by rfl, ?hy2_3⟩) hHeld ?rest2_3
    case hy2_3 => (intro W hSW; (try dsimp only at hSW); go_simp; try with_reducible rfl)
    try simp only [Act.put, List.setIfInBounds_toArray, List.set_cons_zero, List.set_cons_succ]
    refine wpAnyH_take (i := 3) (oi := ⟨some 13, .move (.tmp 12), 4, "check.go:258", #[⟨2, .data⟩], none⟩) (v := ?v3_4) rfl (by kernel_rfl) (by kernel_rfl) (by kernel_rfl) (fun _ _ _ h => h) (Or.inl ⟨by rfl, ?hy3_4⟩) hHeld ?rest3_4
    case hy3_4 => (intro W hSW; (try dsimp only at hSW); go_simp; try with_reducible rfl)
    try simp only [Act.put, List.setIfInBounds_toArray, List.set_cons_zero, List.set_cons_succ]
    refine wpAnyH_take (i := 4) (oi := ⟨some 14, .fieldAddr 24 (.tmp 3) 3, 0, "check.go:258", #[⟨3, .guard⟩], some (3, true)⟩) (v := undef) rfl (by kernel_rfl) (by kernel_rfl) (by kernel_rfl) (fun _ _ _ h => h) (Or.inr ⟨by rfl, rfl⟩) hHeld ?_
    try simp only [Act.put, List.setIfInBounds_toArray, List.set_cons_zero, List.set_cons_succ]
    refine wpAnyH_take (i := 5) (oi := ⟨some 15, .load 9 (.tmp 14), 9, "check.go:258", #[⟨4, .data⟩, ⟨3, .guard⟩], some (3, true)⟩) (v := undef) rfl (by kernel_rfl) (by kernel_rfl) (by kernel_rfl) (fun _ _ _ h => h) (Or.inr ⟨by rfl, rfl⟩) hHeld ?_
    try simp only [Act.put, List.setIfInBounds_toArray, List.set_cons_zero, List.set_cons_succ]
    refine wpAnyH_take (i := 6) (oi := ⟨some 16, .binOp .eql 9 (.tmp 15) (.const (.string { data := #[] })) 9, 4, "check.go:258", #[⟨5, .data⟩, ⟨3, .guard⟩], some (3, true)⟩) (v := undef) rfl (by kernel_rfl) (by kernel_rfl) (by kernel_rfl) (fun _ _ _ h => h) (Or.inr ⟨by rfl, rfl⟩) hHeld ?_
    try simp only [Act.put, List.setIfInBounds_toArray, List.set_cons_zero, List.set_cons_succ]
    refine wpAnyH_take (i := 7) (oi := ⟨some 17, .pick (.tmp 13) (.tmp 16) (.const (.bool false)), 4, "check.go:258", #[⟨3, .data⟩, ⟨6, .data⟩], none⟩) (v := ?v7_5) rfl (by kernel_rfl) (by kernel_rfl) (by kernel_rfl) (fun _ _ _ h => h) (Or.inl ⟨by rfl, ?hy7_5⟩) hHeld ?rest7_5
    case hy7_5 => (intro W hSW; (try dsimp only at hSW); go_simp; try with_reducible rfl)
    try simp only [Act.put, List.setIfInBounds_toArray, List.set_cons_zero, List.set_cons_succ]
    refine wpAnyH_take (i := 8) (oi := ⟨some 18, .move (.tmp 17), 4, "check.go:258", #[⟨7, .data⟩, ⟨3, .chain⟩], none⟩) (v := ?v8_6) rfl (by kernel_rfl) (by kernel_rfl) (by kernel_rfl) (fun _ _ _ h => h) (Or.inl ⟨by rfl, ?hy8_6⟩) hHeld ?rest8_6
    case hy8_6 => (intro W hSW; (try dsimp only at hSW); go_simp; try with_reducible rfl)
    try simp only [Act.put, List.setIfInBounds_toArray, List.set_cons_zero, List.set_cons_succ]
    refine wpAnyH_take (i := 9) (oi := ⟨some 19, .load 51 (.tmp 2), 51, "check.go:258", #[⟨8, .guard⟩], some (8, true)⟩) (v := undef) rfl (by kernel_rfl) (by kernel_rfl) (by kernel_rfl) (fun _ _ _ h => h) (Or.inr ⟨by rfl, rfl⟩) hHeld ?_
    try simp only [Act.put, List.setIfInBounds_toArray, List.set_cons_zero, List.set_cons_succ]
    refine wpAnyH_take (i := 10) (oi := ⟨some 20, .fieldAddr 24 (.tmp 3) 2, 0, "check.go:258", #[⟨8, .guard⟩], some (8, true)⟩) (v := undef) rfl (by kernel_rfl) (by kernel_rfl) (by kernel_rfl) (fun _ _ _ h => h) (Or.inr ⟨by rfl, rfl⟩) hHeld ?_
    try simp only [Act.put, List.setIfInBounds_toArray, List.set_cons_zero, List.set_cons_succ]
    refine wpAnyH_take (i := 11) (oi := ⟨some 21, .load 9 (.tmp 20), 9, "check.go:258", #[⟨10, .data⟩, ⟨8, .guard⟩], some (8, true)⟩) (v := undef) rfl (by kernel_rfl) (by kernel_rfl) (by kernel_rfl) (fun _ _ _ h => h) (Or.inr ⟨by rfl, rfl⟩) hHeld ?_
    try simp only [Act.put, List.setIfInBounds_toArray, List.set_cons_zero, List.set_cons_succ]
    refine wpAnyH_ready (rs := [12]) (by kernel_rfl) (by simp) ?_
    refine AllReadyH.cons (o := ⟨some 22, .call { callee := .value (.func 98), args := #[.tmp 19, .tmp 21], argTypes := #[51, 9] }, 4, "check.go:258", #[⟨9, .data⟩, ⟨11, .data⟩, ⟨8, .chain⟩, ⟨8, .guard⟩], some (8, true)⟩) rfl (fun K hK => ?_) AllReadyH.nil
    go_simp
    refine hK.out _ _ hHeld (fun _ => ?_)
    clear hK K
    try simp only [Act.put, List.setIfInBounds_toArray, List.set_cons_zero, List.set_cons_succ]
    refine wpAnyH_take (i := 13) (oi := ⟨some 23, .pick (.tmp 18) (.tmp 22) (.const (.bool false)), 4, "check.go:258", #[⟨8, .data⟩, ⟨12, .data⟩], none⟩) (v := ?v13_7) rfl (by kernel_rfl) (by kernel_rfl) (by kernel_rfl) (fun _ _ _ h => h) (Or.inl ⟨by rfl, ?hy13_7⟩) hHeld ?rest13_7
    case hy13_7 => (intro W hSW; (try dsimp only at hSW); go_simp; try with_reducible rfl)
    try simp only [Act.put, List.setIfInBounds_toArray, List.set_cons_zero, List.set_cons_succ]
    refine wpAnyH_take (i := 14) (oi := ⟨some 24, .move (.tmp 23), 4, "check.go:258", #[⟨13, .data⟩, ⟨12, .chain⟩], none⟩) (v := ?v14_8) rfl (by kernel_rfl) (by kernel_rfl) (by kernel_rfl) (fun _ _ _ h => h) (Or.inl ⟨by rfl, ?hy14_8⟩) hHeld ?rest14_8
    case hy14_8 => (intro W hSW; (try dsimp only at hSW); go_simp; try with_reducible rfl)
    try simp only [Act.put, List.setIfInBounds_toArray, List.set_cons_zero, List.set_cons_succ]
    refine wpAnyH_take (i := 15) (oi := ⟨some 25, .fieldAddr 24 (.tmp 3) 4, 0, "check.go:258", #[⟨14, .guard⟩], some (14, true)⟩) (v := undef) rfl (by kernel_rfl) (by kernel_rfl) (by kernel_rfl) (fun _ _ _ h => h) (Or.inr ⟨by rfl, rfl⟩) hHeld ?_
    try simp only [Act.put, List.setIfInBounds_toArray, List.set_cons_zero, List.set_cons_succ]
    refine wpAnyH_take (i := 16) (oi := ⟨some 26, .load 22 (.tmp 25), 22, "check.go:258", #[⟨15, .data⟩, ⟨14, .guard⟩], some (14, true)⟩) (v := undef) rfl (by kernel_rfl) (by kernel_rfl) (by kernel_rfl) (fun _ _ _ h => h) (Or.inr ⟨by rfl, rfl⟩) hHeld ?_
    try simp only [Act.put, List.setIfInBounds_toArray, List.set_cons_zero, List.set_cons_succ]
    refine wpAnyH_take (i := 17) (oi := ⟨some 27, .call { callee := .builtin .len, args := #[.tmp 26], argTypes := #[22] }, 3, "check.go:258", #[⟨16, .data⟩, ⟨14, .guard⟩], some (14, true)⟩) (v := undef) rfl (by kernel_rfl) (by kernel_rfl) (by kernel_rfl) (fun _ _ _ h => h) (Or.inr ⟨by rfl, rfl⟩) hHeld ?_
    try simp only [Act.put, List.setIfInBounds_toArray, List.set_cons_zero, List.set_cons_succ]
    refine wpAnyH_take (i := 18) (oi := ⟨some 28, .binOp .leq 3 (.tmp 27) (.const (.int .i64 512)) 3, 4, "check.go:258", #[⟨17, .data⟩, ⟨14, .guard⟩], some (14, true)⟩) (v := undef) rfl (by kernel_rfl) (by kernel_rfl) (by kernel_rfl) (fun _ _ _ h => h) (Or.inr ⟨by rfl, rfl⟩) hHeld ?_
    try simp only [Act.put, List.setIfInBounds_toArray, List.set_cons_zero, List.set_cons_succ]
    refine wpAnyH_take (i := 19) (oi := ⟨some 29, .pick (.tmp 24) (.tmp 28) (.const (.bool false)), 4, "check.go:258", #[⟨14, .data⟩, ⟨18, .data⟩], none⟩) (v := ?v19_9) rfl (by kernel_rfl) (by kernel_rfl) (by kernel_rfl) (fun _ _ _ h => h) (Or.inl ⟨by rfl, ?hy19_9⟩) hHeld ?rest19_9
    case hy19_9 => (intro W hSW; (try dsimp only at hSW); go_simp; try with_reducible rfl)
    try simp only [Act.put, List.setIfInBounds_toArray, List.set_cons_zero, List.set_cons_succ]
    refine wpAnyH_take (i := 20) (oi := ⟨some 30, .move (.tmp 29), 4, "check.go:258", #[⟨19, .data⟩, ⟨14, .chain⟩], none⟩) (v := ?v20_10) rfl (by kernel_rfl) (by kernel_rfl) (by kernel_rfl) (fun _ _ _ h => h) (Or.inl ⟨by rfl, ?hy20_10⟩) hHeld ?rest20_10
    case hy20_10 => (intro W hSW; (try dsimp only at hSW); go_simp; try with_reducible rfl)
    try simp only [Act.put, List.setIfInBounds_toArray, List.set_cons_zero, List.set_cons_succ]
    refine wpAnyH_take (i := 21) (oi := ⟨some 31, .fieldAddr 24 (.tmp 3) 4, 0, "check.go:258", #[⟨20, .guard⟩], some (20, true)⟩) (v := undef) rfl (by kernel_rfl) (by kernel_rfl) (by kernel_rfl) (fun _ _ _ h => h) (Or.inr ⟨by rfl, rfl⟩) hHeld ?_
    try simp only [Act.put, List.setIfInBounds_toArray, List.set_cons_zero, List.set_cons_succ]
    refine wpAnyH_take (i := 22) (oi := ⟨some 32, .load 22 (.tmp 31), 22, "check.go:258", #[⟨21, .data⟩, ⟨20, .guard⟩], some (20, true)⟩) (v := undef) rfl (by kernel_rfl) (by kernel_rfl) (by kernel_rfl) (fun _ _ _ h => h) (Or.inr ⟨by rfl, rfl⟩) hHeld ?_
    try simp only [Act.put, List.setIfInBounds_toArray, List.set_cons_zero, List.set_cons_succ]
    refine wpAnyH_take (i := 23) (oi := ⟨some 33, .move (.tmp 5), 3, "check.go:258", #[⟨20, .guard⟩], some (20, true)⟩) (v := undef) rfl (by kernel_rfl) (by kernel_rfl) (by kernel_rfl) (fun _ _ _ h => h) (Or.inr ⟨by rfl, rfl⟩) hHeld ?_
    try simp only [Act.put, List.setIfInBounds_toArray, List.set_cons_zero, List.set_cons_succ]
    refine wpAnyH_take (i := 24) (oi := ⟨some 34, .slice 22 (.tmp 32) none (some (.tmp 33)) none, 22, "check.go:258", #[⟨22, .data⟩, ⟨23, .data⟩, ⟨20, .guard⟩], some (20, true)⟩) (v := undef) rfl (by kernel_rfl) (by kernel_rfl) (by kernel_rfl) (fun _ _ _ h => h) (Or.inr ⟨by rfl, rfl⟩) hHeld ?_
    try simp only [Act.put, List.setIfInBounds_toArray, List.set_cons_zero, List.set_cons_succ]
    refine wpAnyH_take (i := 25) (oi := ⟨some 35, .load 51 (.tmp 2), 51, "check.go:258", #[⟨20, .guard⟩], some (20, true)⟩) (v := undef) rfl (by kernel_rfl) (by kernel_rfl) (by kernel_rfl) (fun _ _ _ h => h) (Or.inr ⟨by rfl, rfl⟩) hHeld ?_
    try simp only [Act.put, List.setIfInBounds_toArray, List.set_cons_zero, List.set_cons_succ]
    refine wpAnyH_ready (rs := [26]) (by kernel_rfl) (by simp) ?_
    refine AllReadyH.cons (o := ⟨some 36, .call { callee := .value (.func 65), args := #[.tmp 35], argTypes := #[51] }, 51, "check.go:259", #[⟨25, .data⟩, ⟨20, .chain⟩, ⟨20, .guard⟩], some (20, true)⟩) rfl (fun K hK => ?_) AllReadyH.nil
    go_simp
    refine hK.out _ _ hHeld (fun _ => ?_)
    clear hK K
    try simp only [Act.put, List.setIfInBounds_toArray, List.set_cons_zero, List.set_cons_succ]
    refine wpAnyH_ready (rs := [27]) (by kernel_rfl) (by simp) ?_
    refine AllReadyH.cons (o := ⟨some 37, .makeFunc (.func 25) #[.tmp 36] #[], 53, "check.go:258", #[⟨26, .data⟩, ⟨20, .guard⟩], some (20, true)⟩) rfl (fun K hK => ?_) AllReadyH.nil
    go_simp
    refine hK.out _ _ hHeld (fun _ => ?_)
    clear hK K
    try simp only [Act.put, List.setIfInBounds_toArray, List.set_cons_zero, List.set_cons_succ]
    refine wpAnyH_ready (rs := [28]) (by kernel_rfl) (by simp) ?_
    refine AllReadyH.cons (o := ⟨some 38, .call { callee := .value (.func 64), args := #[.tmp 34, .tmp 37], argTypes := #[22, 53] }, 4, "check.go:259", #[⟨24, .data⟩, ⟨27, .data⟩, ⟨26, .chain⟩, ⟨20, .guard⟩], some (20, true)⟩) rfl (fun K hK => ?_) AllReadyH.nil
    go_simp
    refine hK.out _ _ hHeld (fun _ => ?_)
    clear hK K
    try simp only [Act.put, List.setIfInBounds_toArray, List.set_cons_zero, List.set_cons_succ]
    refine wpAnyH_take (i := 29) (oi := ⟨some 39, .pick (.tmp 30) (.tmp 38) (.const (.bool false)), 4, "check.go:258", #[⟨20, .data⟩, ⟨28, .data⟩], none⟩) (v := ?v29_11) rfl (by kernel_rfl) (by kernel_rfl) (by kernel_rfl) (fun _ _ _ h => h) (Or.inl ⟨by rfl, ?hy29_11⟩) hHeld ?rest29_11
    case hy29_11 => (intro W hSW; (try dsimp only at hSW); go_simp; try with_reducible rfl)
    try simp only [Act.put, List.setIfInBounds_toArray, List.set_cons_zero, List.set_cons_succ]
    refine wpAnyH_take (i := 30) (oi := ⟨some 40, .move (.tmp 39), 4, "check.go:258", #[⟨29, .data⟩, ⟨28, .chain⟩], none⟩) (v := ?v30_12) rfl (by kernel_rfl) (by kernel_rfl) (by kernel_rfl) (fun _ _ _ h => h) (Or.inl ⟨by rfl, ?hy30_12⟩) hHeld ?rest30_12
    case hy30_12 => (intro W hSW; (try dsimp only at hSW); go_simp; try with_reducible rfl)
    try simp only [Act.put, List.setIfInBounds_toArray, List.set_cons_zero, List.set_cons_succ]
    refine wpAnyH_take (i := 31) (oi := ⟨some 41, .fieldAddr 24 (.tmp 3) 4, 0, "check.go:258", #[⟨30, .guard⟩], some (30, true)⟩) (v := undef) rfl (by kernel_rfl) (by kernel_rfl) (by kernel_rfl) (fun _ _ _ h => h) (Or.inr ⟨by rfl, rfl⟩) hHeld ?_
    try simp only [Act.put, List.setIfInBounds_toArray, List.set_cons_zero, List.set_cons_succ]
    refine wpAnyH_take (i := 32) (oi := ⟨some 42, .load 22 (.tmp 41), 22, "check.go:258", #[⟨31, .data⟩, ⟨30, .guard⟩], some (30, true)⟩) (v := undef) rfl (by kernel_rfl) (by kernel_rfl) (by kernel_rfl) (fun _ _ _ h => h) (Or.inr ⟨by rfl, rfl⟩) hHeld ?_
    try simp only [Act.put, List.setIfInBounds_toArray, List.set_cons_zero, List.set_cons_succ]
    refine wpAnyH_take (i := 33) (oi := ⟨some 43, .move (.tmp 5), 3, "check.go:258", #[⟨30, .guard⟩], some (30, true)⟩) (v := undef) rfl (by kernel_rfl) (by kernel_rfl) (by kernel_rfl) (fun _ _ _ h => h) (Or.inr ⟨by rfl, rfl⟩) hHeld ?_
    try simp only [Act.put, List.setIfInBounds_toArray, List.set_cons_zero, List.set_cons_succ]
    refine wpAnyH_take (i := 34) (oi := ⟨some 44, .slice 22 (.tmp 42) (some (.tmp 43)) none none, 22, "check.go:258", #[⟨32, .data⟩, ⟨33, .data⟩, ⟨30, .guard⟩], some (30, true)⟩) (v := undef) rfl (by kernel_rfl) (by kernel_rfl) (by kernel_rfl) (fun _ _ _ h => h) (Or.inr ⟨by rfl, rfl⟩) hHeld ?_
    try simp only [Act.put, List.setIfInBounds_toArray, List.set_cons_zero, List.set_cons_succ]
    refine wpAnyH_take (i := 35) (oi := ⟨some 45, .load 51 (.tmp 2), 51, "check.go:258", #[⟨30, .guard⟩], some (30, true)⟩) (v := undef) rfl (by kernel_rfl) (by kernel_rfl) (by kernel_rfl) (fun _ _ _ h => h) (Or.inr ⟨by rfl, rfl⟩) hHeld ?_
    try simp only [Act.put, List.setIfInBounds_toArray, List.set_cons_zero, List.set_cons_succ]
    refine wpAnyH_ready (rs := [36]) (by kernel_rfl) (by simp) ?_
    refine AllReadyH.cons (o := ⟨some 46, .makeFunc (.func 99) #[.tmp 45] #[], 53, "check.go:258", #[⟨35, .data⟩, ⟨30, .guard⟩], some (30, true)⟩) rfl (fun K hK => ?_) AllReadyH.nil
    go_simp
    refine hK.out _ _ hHeld (fun _ => ?_)
    clear hK K
    try simp only [Act.put, List.setIfInBounds_toArray, List.set_cons_zero, List.set_cons_succ]
    refine wpAnyH_ready (rs := [37]) (by kernel_rfl) (by simp) ?_
    refine AllReadyH.cons (o := ⟨some 47, .call { callee := .value (.func 64), args := #[.tmp 44, .tmp 46], argTypes := #[22, 53] }, 4, "check.go:259", #[⟨34, .data⟩, ⟨36, .data⟩, ⟨30, .chain⟩, ⟨30, .guard⟩], some (30, true)⟩) rfl (fun K hK => ?_) AllReadyH.nil
    go_simp
    refine hK.out _ _ hHeld (fun _ => ?_)
    clear hK K
    try simp only [Act.put, List.setIfInBounds_toArray, List.set_cons_zero, List.set_cons_succ]
    refine wpAnyH_take (i := 38) (oi := ⟨some 48, .pick (.tmp 40) (.tmp 47) (.const (.bool false)), 4, "check.go:258", #[⟨30, .data⟩, ⟨37, .data⟩], none⟩) (v := ?v38_13) rfl (by kernel_rfl) (by kernel_rfl) (by kernel_rfl) (fun _ _ _ h => h) (Or.inl ⟨by rfl, ?hy38_13⟩) hHeld ?rest38_13
    case hy38_13 => (intro W hSW; (try dsimp only at hSW); go_simp; try with_reducible rfl)
    try simp only [Act.put, List.setIfInBounds_toArray, List.set_cons_zero, List.set_cons_succ]
    refine wpAnyH_take (i := 39) (oi := ⟨some 4, .assign (.tmp 48), 4, "check.go:258", #[⟨38, .data⟩, ⟨37, .chain⟩, ⟨0, .phase⟩, ⟨1, .phase⟩, ⟨2, .phase⟩, ⟨3, .phase⟩, ⟨4, .phase⟩, ⟨5, .phase⟩, ⟨6, .phase⟩, ⟨7, .phase⟩, ⟨8, .phase⟩, ⟨9, .phase⟩, ⟨10, .phase⟩, ⟨11, .phase⟩, ⟨12, .phase⟩, ⟨13, .phase⟩, ⟨14, .phase⟩, ⟨15, .phase⟩, ⟨16, .phase⟩, ⟨17, .phase⟩, ⟨18, .phase⟩, ⟨19, .phase⟩, ⟨20, .phase⟩, ⟨21, .phase⟩, ⟨22, .phase⟩, ⟨23, .phase⟩, ⟨24, .phase⟩, ⟨25, .phase⟩, ⟨26, .phase⟩, ⟨27, .phase⟩, ⟨28, .phase⟩, ⟨29, .phase⟩, ⟨30, .phase⟩, ⟨31, .phase⟩, ⟨32, .phase⟩, ⟨33, .phase⟩, ⟨34, .phase⟩, ⟨35, .phase⟩, ⟨36, .phase⟩, ⟨37, .phase⟩, ⟨38, .phase⟩], none⟩) (v := ?v39_14) rfl (by kernel_rfl) (by kernel_rfl) (by kernel_rfl) (fun _ _ _ h => h) (Or.inl ⟨by rfl, ?hy39_14⟩) hHeld ?rest39_14
    case hy39_14 => (intro W hSW; (try dsimp only at hSW); go_simp; try with_reducible rfl)
    try simp only [Act.put, List.setIfInBounds_toArray, List.set_cons_zero, List.set_cons_succ]
    refine wpAnyH_done (by kernel_rfl) ?_ _
    have HS := Lib.hid hHeld
    clear hHeld
    go_wp2_with fail
    go_ret
    exact ⟨by rw [HO.out]; simp [*], HS.out.2.2.2.2.2.2.2⟩
  | true =>
    refine wpAnyH_take (i := 2) (oi := ⟨some 12, .binOp .eql 2 (.tmp 11) (.const (.int .i64 0)) 2, 4, "check.go:258", #[⟨1, .data⟩], none⟩) (v := ?v2_15) rfl (by kernel_rfl) (by kernel_rfl) (by kernel_rfl) (fun _ _ _ h => h) (Or.inl ⟨by rfl, ?hy2_15⟩) hHeld ?rest2_15
    case hy2_15 => (intro W hSW; (try dsimp only at hSW); go_simp; try with_reducible rfl)
    try simp only [Act.put, List.setIfInBounds_toArray, List.set_cons_zero, List.set_cons_succ]
    refine wpAnyH_take (i := 3) (oi := ⟨some 13, .move (.tmp 12), 4, "check.go:258", #[⟨2, .data⟩], none⟩) (v := ?v3_16) rfl (by kernel_rfl) (by kernel_rfl) (by kernel_rfl) (fun _ _ _ h => h) (Or.inl ⟨by rfl, ?hy3_16⟩) hHeld ?rest3_16
    case hy3_16 => (intro W hSW; (try dsimp only at hSW); go_simp; try with_reducible rfl)
    try simp only [Act.put, List.setIfInBounds_toArray, List.set_cons_zero, List.set_cons_succ]
    refine wpAnyH_take (i := 4) (oi := ⟨some 14, .fieldAddr 24 (.tmp 3) 3, 0, "check.go:258", #[⟨3, .guard⟩], some (3, true)⟩) (v := ?v4_17) rfl (by kernel_rfl) (by kernel_rfl) (by kernel_rfl) (fun _ _ _ h => h) (Or.inl ⟨by rfl, ?hy4_17⟩) hHeld ?rest4_17
    case hy4_17 => (intro W hSW; (try dsimp only at hSW); go_simp; try with_reducible rfl)
    try simp only [Act.put, List.setIfInBounds_toArray, List.set_cons_zero, List.set_cons_succ]
    refine wpAnyH_take (i := 5) (oi := ⟨some 15, .load 9 (.tmp 14), 9, "check.go:258", #[⟨4, .data⟩, ⟨3, .guard⟩], some (3, true)⟩) (v := ?v5_18) rfl (by kernel_rfl) (by kernel_rfl) (by kernel_rfl) (fun _ _ _ h => h) (Or.inl ⟨by rfl, ?hy5_18⟩) hHeld ?rest5_18
    case hy5_18 => (intro W hSW; (try dsimp only at hSW); go_simp; try with_reducible rfl)
    try simp only [Act.put, List.setIfInBounds_toArray, List.set_cons_zero, List.set_cons_succ]
    cases hfe : fd.toList.isEmpty with
    | false =>
      refine wpAnyH_take (i := 6) (oi := ⟨some 16, .binOp .eql 9 (.tmp 15) (.const (.string { data := #[] })) 9, 4, "check.go:258", #[⟨5, .data⟩, ⟨3, .guard⟩], some (3, true)⟩) (v := ?v6_19) rfl (by kernel_rfl) (by kernel_rfl) (by kernel_rfl) (fun _ _ _ h => h) (Or.inl ⟨by rfl, ?hy6_19⟩) hHeld ?rest6_19
      case hy6_19 => (intro W hSW; (try dsimp only at hSW); go_simp; try with_reducible rfl)
      try simp only [Act.put, List.setIfInBounds_toArray, List.set_cons_zero, List.set_cons_succ]
      refine wpAnyH_take (i := 7) (oi := ⟨some 17, .pick (.tmp 13) (.tmp 16) (.const (.bool false)), 4, "check.go:258", #[⟨3, .data⟩, ⟨6, .data⟩], none⟩) (v := ?v7_20) rfl (by kernel_rfl) (by kernel_rfl) (by kernel_rfl) (fun _ _ _ h => h) (Or.inl ⟨by rfl, ?hy7_20⟩) hHeld ?rest7_20
      case hy7_20 => (intro W hSW; (try dsimp only at hSW); go_simp; try with_reducible rfl)
      try simp only [Act.put, List.setIfInBounds_toArray, List.set_cons_zero, List.set_cons_succ]
      refine wpAnyH_take (i := 8) (oi := ⟨some 18, .move (.tmp 17), 4, "check.go:258", #[⟨7, .data⟩, ⟨3, .chain⟩], none⟩) (v := ?v8_21) rfl (by kernel_rfl) (by kernel_rfl) (by kernel_rfl) (fun _ _ _ h => h) (Or.inl ⟨by rfl, ?hy8_21⟩) hHeld ?rest8_21
      case hy8_21 => (intro W hSW; (try dsimp only at hSW); go_simp; try with_reducible rfl)
      try simp only [Act.put, List.setIfInBounds_toArray, List.set_cons_zero, List.set_cons_succ]
      refine wpAnyH_take (i := 9) (oi := ⟨some 19, .load 51 (.tmp 2), 51, "check.go:258", #[⟨8, .guard⟩], some (8, true)⟩) (v := undef) rfl (by kernel_rfl) (by kernel_rfl) (by kernel_rfl) (fun _ _ _ h => h) (Or.inr ⟨by rfl, rfl⟩) hHeld ?_
      try simp only [Act.put, List.setIfInBounds_toArray, List.set_cons_zero, List.set_cons_succ]
      refine wpAnyH_take (i := 10) (oi := ⟨some 20, .fieldAddr 24 (.tmp 3) 2, 0, "check.go:258", #[⟨8, .guard⟩], some (8, true)⟩) (v := undef) rfl (by kernel_rfl) (by kernel_rfl) (by kernel_rfl) (fun _ _ _ h => h) (Or.inr ⟨by rfl, rfl⟩) hHeld ?_
      try simp only [Act.put, List.setIfInBounds_toArray, List.set_cons_zero, List.set_cons_succ]
      refine wpAnyH_take (i := 11) (oi := ⟨some 21, .load 9 (.tmp 20), 9, "check.go:258", #[⟨10, .data⟩, ⟨8, .guard⟩], some (8, true)⟩) (v := undef) rfl (by kernel_rfl) (by kernel_rfl) (by kernel_rfl) (fun _ _ _ h => h) (Or.inr ⟨by rfl, rfl⟩) hHeld ?_
      try simp only [Act.put, List.setIfInBounds_toArray, List.set_cons_zero, List.set_cons_succ]
      refine wpAnyH_ready (rs := [12]) (by kernel_rfl) (by simp) ?_
      refine AllReadyH.cons (o := ⟨some 22, .call { callee := .value (.func 98), args := #[.tmp 19, .tmp 21], argTypes := #[51, 9] }, 4, "check.go:258", #[⟨9, .data⟩, ⟨11, .data⟩, ⟨8, .chain⟩, ⟨8, .guard⟩], some (8, true)⟩) rfl (fun K hK => ?_) AllReadyH.nil
      go_simp
      refine hK.out _ _ hHeld (fun _ => ?_)
      clear hK K
      try simp only [Act.put, List.setIfInBounds_toArray, List.set_cons_zero, List.set_cons_succ]
      refine wpAnyH_take (i := 13) (oi := ⟨some 23, .pick (.tmp 18) (.tmp 22) (.const (.bool false)), 4, "check.go:258", #[⟨8, .data⟩, ⟨12, .data⟩], none⟩) (v := ?v13_22) rfl (by kernel_rfl) (by kernel_rfl) (by kernel_rfl) (fun _ _ _ h => h) (Or.inl ⟨by rfl, ?hy13_22⟩) hHeld ?rest13_22
      case hy13_22 => (intro W hSW; (try dsimp only at hSW); go_simp; try with_reducible rfl)
      try simp only [Act.put, List.setIfInBounds_toArray, List.set_cons_zero, List.set_cons_succ]
      refine wpAnyH_take (i := 14) (oi := ⟨some 24, .move (.tmp 23), 4, "check.go:258", #[⟨13, .data⟩, ⟨12, .chain⟩], none⟩) (v := ?v14_23) rfl (by kernel_rfl) (by kernel_rfl) (by kernel_rfl) (fun _ _ _ h => h) (Or.inl ⟨by rfl, ?hy14_23⟩) hHeld ?rest14_23
      case hy14_23 => (intro W hSW; (try dsimp only at hSW); go_simp; try with_reducible rfl)
      try simp only [Act.put, List.setIfInBounds_toArray, List.set_cons_zero, List.set_cons_succ]
      refine wpAnyH_take (i := 15) (oi := ⟨some 25, .fieldAddr 24 (.tmp 3) 4, 0, "check.go:258", #[⟨14, .guard⟩], some (14, true)⟩) (v := undef) rfl (by kernel_rfl) (by kernel_rfl) (by kernel_rfl) (fun _ _ _ h => h) (Or.inr ⟨by rfl, rfl⟩) hHeld ?_
      try simp only [Act.put, List.setIfInBounds_toArray, List.set_cons_zero, List.set_cons_succ]
      refine wpAnyH_take (i := 16) (oi := ⟨some 26, .load 22 (.tmp 25), 22, "check.go:258", #[⟨15, .data⟩, ⟨14, .guard⟩], some (14, true)⟩) (v := undef) rfl (by kernel_rfl) (by kernel_rfl) (by kernel_rfl) (fun _ _ _ h => h) (Or.inr ⟨by rfl, rfl⟩) hHeld ?_
      try simp only [Act.put, List.setIfInBounds_toArray, List.set_cons_zero, List.set_cons_succ]
      refine wpAnyH_take (i := 17) (oi := ⟨some 27, .call { callee := .builtin .len, args := #[.tmp 26], argTypes := #[22] }, 3, "check.go:258", #[⟨16, .data⟩, ⟨14, .guard⟩], some (14, true)⟩) (v := undef) rfl (by kernel_rfl) (by kernel_rfl) (by kernel_rfl) (fun _ _ _ h => h) (Or.inr ⟨by rfl, rfl⟩) hHeld ?_
      try simp only [Act.put, List.setIfInBounds_toArray, List.set_cons_zero, List.set_cons_succ]
      refine wpAnyH_take (i := 18) (oi := ⟨some 28, .binOp .leq 3 (.tmp 27) (.const (.int .i64 512)) 3, 4, "check.go:258", #[⟨17, .data⟩, ⟨14, .guard⟩], some (14, true)⟩) (v := undef) rfl (by kernel_rfl) (by kernel_rfl) (by kernel_rfl) (fun _ _ _ h => h) (Or.inr ⟨by rfl, rfl⟩) hHeld ?_
      try simp only [Act.put, List.setIfInBounds_toArray, List.set_cons_zero, List.set_cons_succ]
      refine wpAnyH_take (i := 19) (oi := ⟨some 29, .pick (.tmp 24) (.tmp 28) (.const (.bool false)), 4, "check.go:258", #[⟨14, .data⟩, ⟨18, .data⟩], none⟩) (v := ?v19_24) rfl (by kernel_rfl) (by kernel_rfl) (by kernel_rfl) (fun _ _ _ h => h) (Or.inl ⟨by rfl, ?hy19_24⟩) hHeld ?rest19_24
      case hy19_24 => (intro W hSW; (try dsimp only at hSW); go_simp; try with_reducible rfl)
      try simp only [Act.put, List.setIfInBounds_toArray, List.set_cons_zero, List.set_cons_succ]
      refine wpAnyH_take (i := 20) (oi := ⟨some 30, .move (.tmp 29), 4, "check.go:258", #[⟨19, .data⟩, ⟨14, .chain⟩], none⟩) (v := ?v20_25) rfl (by kernel_rfl) (by kernel_rfl) (by kernel_rfl) (fun _ _ _ h => h) (Or.inl ⟨by rfl, ?hy20_25⟩) hHeld ?rest20_25
      case hy20_25 => (intro W hSW; (try dsimp only at hSW); go_simp; try with_reducible rfl)
      try simp only [Act.put, List.setIfInBounds_toArray, List.set_cons_zero, List.set_cons_succ]
      refine wpAnyH_take (i := 21) (oi := ⟨some 31, .fieldAddr 24 (.tmp 3) 4, 0, "check.go:258", #[⟨20, .guard⟩], some (20, true)⟩) (v := undef) rfl (by kernel_rfl) (by kernel_rfl) (by kernel_rfl) (fun _ _ _ h => h) (Or.inr ⟨by rfl, rfl⟩) hHeld ?_
      try simp only [Act.put, List.setIfInBounds_toArray, List.set_cons_zero, List.set_cons_succ]
      refine wpAnyH_take (i := 22) (oi := ⟨some 32, .load 22 (.tmp 31), 22, "check.go:258", #[⟨21, .data⟩, ⟨20, .guard⟩], some (20, true)⟩) (v := undef) rfl (by kernel_rfl) (by kernel_rfl) (by kernel_rfl) (fun _ _ _ h => h) (Or.inr ⟨by rfl, rfl⟩) hHeld ?_
      try simp only [Act.put, List.setIfInBounds_toArray, List.set_cons_zero, List.set_cons_succ]
      refine wpAnyH_take (i := 23) (oi := ⟨some 33, .move (.tmp 5), 3, "check.go:258", #[⟨20, .guard⟩], some (20, true)⟩) (v := undef) rfl (by kernel_rfl) (by kernel_rfl) (by kernel_rfl) (fun _ _ _ h => h) (Or.inr ⟨by rfl, rfl⟩) hHeld ?_
      try simp only [Act.put, List.setIfInBounds_toArray, List.set_cons_zero, List.set_cons_succ]
      refine wpAnyH_take (i := 24) (oi := ⟨some 34, .slice 22 (.tmp 32) none (some (.tmp 33)) none, 22, "check.go:258", #[⟨22, .data⟩, ⟨23, .data⟩, ⟨20, .guard⟩], some (20, true)⟩) (v := undef) rfl (by kernel_rfl) (by kernel_rfl) (by kernel_rfl) (fun _ _ _ h => h) (Or.inr ⟨by rfl, rfl⟩) hHeld ?_
      try simp only [Act.put, List.setIfInBounds_toArray, List.set_cons_zero, List.set_cons_succ]
      refine wpAnyH_take (i := 25) (oi := ⟨some 35, .load 51 (.tmp 2), 51, "check.go:258", #[⟨20, .guard⟩], some (20, true)⟩) (v := undef) rfl (by kernel_rfl) (by kernel_rfl) (by kernel_rfl) (fun _ _ _ h => h) (Or.inr ⟨by rfl, rfl⟩) hHeld ?_
      try simp only [Act.put, List.setIfInBounds_toArray, List.set_cons_zero, List.set_cons_succ]
      refine wpAnyH_ready (rs := [26]) (by kernel_rfl) (by simp) ?_
      refine AllReadyH.cons (o := ⟨some 36, .call { callee := .value (.func 65), args := #[.tmp 35], argTypes := #[51] }, 51, "check.go:259", #[⟨25, .data⟩, ⟨20, .chain⟩, ⟨20, .guard⟩], some (20, true)⟩) rfl (fun K hK => ?_) AllReadyH.nil
      go_simp
      refine hK.out _ _ hHeld (fun _ => ?_)
      clear hK K
      try simp only [Act.put, List.setIfInBounds_toArray, List.set_cons_zero, List.set_cons_succ]
      refine wpAnyH_ready (rs := [27]) (by kernel_rfl) (by simp) ?_
      refine AllReadyH.cons (o := ⟨some 37, .makeFunc (.func 25) #[.tmp 36] #[], 53, "check.go:258", #[⟨26, .data⟩, ⟨20, .guard⟩], some (20, true)⟩) rfl (fun K hK => ?_) AllReadyH.nil
      go_simp
      refine hK.out _ _ hHeld (fun _ => ?_)
      clear hK K
      try simp only [Act.put, List.setIfInBounds_toArray, List.set_cons_zero, List.set_cons_succ]
      refine wpAnyH_ready (rs := [28]) (by kernel_rfl) (by simp) ?_
      refine AllReadyH.cons (o := ⟨some 38, .call { callee := .value (.func 64), args := #[.tmp 34, .tmp 37], argTypes := #[22, 53] }, 4, "check.go:259", #[⟨24, .data⟩, ⟨27, .data⟩, ⟨26, .chain⟩, ⟨20, .guard⟩], some (20, true)⟩) rfl (fun K hK => ?_) AllReadyH.nil
      go_simp
      refine hK.out _ _ hHeld (fun _ => ?_)
      clear hK K
      try simp only [Act.put, List.setIfInBounds_toArray, List.set_cons_zero, List.set_cons_succ]
      refine wpAnyH_take (i := 29) (oi := ⟨some 39, .pick (.tmp 30) (.tmp 38) (.const (.bool false)), 4, "check.go:258", #[⟨20, .data⟩, ⟨28, .data⟩], none⟩) (v := ?v29_26) rfl (by kernel_rfl) (by kernel_rfl) (by kernel_rfl) (fun _ _ _ h => h) (Or.inl ⟨by rfl, ?hy29_26⟩) hHeld ?rest29_26
      case hy29_26 => (intro W hSW; (try dsimp only at hSW); go_simp; try with_reducible rfl)
      try simp only [Act.put, List.setIfInBounds_toArray, List.set_cons_zero, List.set_cons_succ]
      refine wpAnyH_take (i := 30) (oi := ⟨some 40, .move (.tmp 39), 4, "check.go:258", #[⟨29, .data⟩, ⟨28, .chain⟩], none⟩) (v := ?v30_27) rfl (by kernel_rfl) (by kernel_rfl) (by kernel_rfl) (fun _ _ _ h => h) (Or.inl ⟨by rfl, ?hy30_27⟩) hHeld ?rest30_27
      case hy30_27 => (intro W hSW; (try dsimp only at hSW); go_simp; try with_reducible rfl)
      try simp only [Act.put, List.setIfInBounds_toArray, List.set_cons_zero, List.set_cons_succ]
      refine wpAnyH_take (i := 31) (oi := ⟨some 41, .fieldAddr 24 (.tmp 3) 4, 0, "check.go:258", #[⟨30, .guard⟩], some (30, true)⟩) (v := undef) rfl (by kernel_rfl) (by kernel_rfl) (by kernel_rfl) (fun _ _ _ h => h) (Or.inr ⟨by rfl, rfl⟩) hHeld ?_
      try simp only [Act.put, List.setIfInBounds_toArray, List.set_cons_zero, List.set_cons_succ]
      refine wpAnyH_take (i := 32) (oi := ⟨some 42, .load 22 (.tmp 41), 22, "check.go:258", #[⟨31, .data⟩, ⟨30, .guard⟩], some (30, true)⟩) (v := undef) rfl (by kernel_rfl) (by kernel_rfl) (by kernel_rfl) (fun _ _ _ h => h) (Or.inr ⟨by rfl, rfl⟩) hHeld ?_
      try simp only [Act.put, List.setIfInBounds_toArray, List.set_cons_zero, List.set_cons_succ]
      refine wpAnyH_take (i := 33) (oi := ⟨some 43, .move (.tmp 5), 3, "check.go:258", #[⟨30, .guard⟩], some (30, true)⟩) (v := undef) rfl (by kernel_rfl) (by kernel_rfl) (by kernel_rfl) (fun _ _ _ h => h) (Or.inr ⟨by rfl, rfl⟩) hHeld ?_
      try simp only [Act.put, List.setIfInBounds_toArray, List.set_cons_zero, List.set_cons_succ]
      refine wpAnyH_take (i := 34) (oi := ⟨some 44, .slice 22 (.tmp 42) (some (.tmp 43)) none none, 22, "check.go:258", #[⟨32, .data⟩, ⟨33, .data⟩, ⟨30, .guard⟩], some (30, true)⟩) (v := undef) rfl (by kernel_rfl) (by kernel_rfl) (by kernel_rfl) (fun _ _ _ h => h) (Or.inr ⟨by rfl, rfl⟩) hHeld ?_
      try simp only [Act.put, List.setIfInBounds_toArray, List.set_cons_zero, List.set_cons_succ]
      refine wpAnyH_take (i := 35) (oi := ⟨some 45, .load 51 (.tmp 2), 51, "check.go:258", #[⟨30, .guard⟩], some (30, true)⟩) (v := undef) rfl (by kernel_rfl) (by kernel_rfl) (by kernel_rfl) (fun _ _ _ h => h) (Or.inr ⟨by rfl, rfl⟩) hHeld ?_
      try simp only [Act.put, List.setIfInBounds_toArray, List.set_cons_zero, List.set_cons_succ]
      refine wpAnyH_ready (rs := [36]) (by kernel_rfl) (by simp) ?_
      refine AllReadyH.cons (o := ⟨some 46, .makeFunc (.func 99) #[.tmp 45] #[], 53, "check.go:258", #[⟨35, .data⟩, ⟨30, .guard⟩], some (30, true)⟩) rfl (fun K hK => ?_) AllReadyH.nil
      go_simp
      refine hK.out _ _ hHeld (fun _ => ?_)
      clear hK K
      try simp only [Act.put, List.setIfInBounds_toArray, List.set_cons_zero, List.set_cons_succ]
      refine wpAnyH_ready (rs := [37]) (by kernel_rfl) (by simp) ?_
      refine AllReadyH.cons (o := ⟨some 47, .call { callee := .value (.func 64), args := #[.tmp 44, .tmp 46], argTypes := #[22, 53] }, 4, "check.go:259", #[⟨34, .data⟩, ⟨36, .data⟩, ⟨30, .chain⟩, ⟨30, .guard⟩], some (30, true)⟩) rfl (fun K hK => ?_) AllReadyH.nil
      go_simp
      refine hK.out _ _ hHeld (fun _ => ?_)
      clear hK K
      try simp only [Act.put, List.setIfInBounds_toArray, List.set_cons_zero, List.set_cons_succ]
      refine wpAnyH_take (i := 38) (oi := ⟨some 48, .pick (.tmp 40) (.tmp 47) (.const (.bool false)), 4, "check.go:258", #[⟨30, .data⟩, ⟨37, .data⟩], none⟩) (v := ?v38_28) rfl (by kernel_rfl) (by kernel_rfl) (by kernel_rfl) (fun _ _ _ h => h) (Or.inl ⟨by rfl, ?hy38_28⟩) hHeld ?rest38_28
      case hy38_28 => (intro W hSW; (try dsimp only at hSW); go_simp; try with_reducible rfl)
      try simp only [Act.put, List.setIfInBounds_toArray, List.set_cons_zero, List.set_cons_succ]
      refine wpAnyH_take (i := 39) (oi := ⟨some 4, .assign (.tmp 48), 4, "check.go:258", #[⟨38, .data⟩, ⟨37, .chain⟩, ⟨0, .phase⟩, ⟨1, .phase⟩, ⟨2, .phase⟩, ⟨3, .phase⟩, ⟨4, .phase⟩, ⟨5, .phase⟩, ⟨6, .phase⟩, ⟨7, .phase⟩, ⟨8, .phase⟩, ⟨9, .phase⟩, ⟨10, .phase⟩, ⟨11, .phase⟩, ⟨12, .phase⟩, ⟨13, .phase⟩, ⟨14, .phase⟩, ⟨15, .phase⟩, ⟨16, .phase⟩, ⟨17, .phase⟩, ⟨18, .phase⟩, ⟨19, .phase⟩, ⟨20, .phase⟩, ⟨21, .phase⟩, ⟨22, .phase⟩, ⟨23, .phase⟩, ⟨24, .phase⟩, ⟨25, .phase⟩, ⟨26, .phase⟩, ⟨27, .phase⟩, ⟨28, .phase⟩, ⟨29, .phase⟩, ⟨30, .phase⟩, ⟨31, .phase⟩, ⟨32, .phase⟩, ⟨33, .phase⟩, ⟨34, .phase⟩, ⟨35, .phase⟩, ⟨36, .phase⟩, ⟨37, .phase⟩, ⟨38, .phase⟩], none⟩) (v := ?v39_29) rfl (by kernel_rfl) (by kernel_rfl) (by kernel_rfl) (fun _ _ _ h => h) (Or.inl ⟨by rfl, ?hy39_29⟩) hHeld ?rest39_29
      case hy39_29 => (intro W hSW; (try dsimp only at hSW); go_simp; try with_reducible rfl)
      try simp only [Act.put, List.setIfInBounds_toArray, List.set_cons_zero, List.set_cons_succ]
      refine wpAnyH_done (by kernel_rfl) ?_ _
      have HS := Lib.hid hHeld
      clear hHeld
      go_wp2_with fail
      go_ret
      exact ⟨by rw [HO.out]; simp [*], HS.out.2.2.2.2.2.2.2⟩
    | true =>
      refine wpAnyH_take (i := 6) (oi := ⟨some 16, .binOp .eql 9 (.tmp 15) (.const (.string { data := #[] })) 9, 4, "check.go:258", #[⟨5, .data⟩, ⟨3, .guard⟩], some (3, true)⟩) (v := ?v6_30) rfl (by kernel_rfl) (by kernel_rfl) (by kernel_rfl) (fun _ _ _ h => h) (Or.inl ⟨by rfl, ?hy6_30⟩) hHeld ?rest6_30
      case hy6_30 => (intro W hSW; (try dsimp only at hSW); go_simp; try with_reducible rfl)
      try simp only [Act.put, List.setIfInBounds_toArray, List.set_cons_zero, List.set_cons_succ]
      refine wpAnyH_take (i := 7) (oi := ⟨some 17, .pick (.tmp 13) (.tmp 16) (.const (.bool false)), 4, "check.go:258", #[⟨3, .data⟩, ⟨6, .data⟩], none⟩) (v := ?v7_31) rfl (by kernel_rfl) (by kernel_rfl) (by kernel_rfl) (fun _ _ _ h => h) (Or.inl ⟨by rfl, ?hy7_31⟩) hHeld ?rest7_31
      case hy7_31 => (intro W hSW; (try dsimp only at hSW); go_simp; try with_reducible rfl)
      try simp only [Act.put, List.setIfInBounds_toArray, List.set_cons_zero, List.set_cons_succ]
      refine wpAnyH_take (i := 8) (oi := ⟨some 18, .move (.tmp 17), 4, "check.go:258", #[⟨7, .data⟩, ⟨3, .chain⟩], none⟩) (v := ?v8_32) rfl (by kernel_rfl) (by kernel_rfl) (by kernel_rfl) (fun _ _ _ h => h) (Or.inl ⟨by rfl, ?hy8_32⟩) hHeld ?rest8_32
      case hy8_32 => (intro W hSW; (try dsimp only at hSW); go_simp; try with_reducible rfl)
      try simp only [Act.put, List.setIfInBounds_toArray, List.set_cons_zero, List.set_cons_succ]
      refine wpAnyH_take (i := 9) (oi := ⟨some 19, .load 51 (.tmp 2), 51, "check.go:258", #[⟨8, .guard⟩], some (8, true)⟩) (v := ?v9_33) rfl (by kernel_rfl) (by kernel_rfl) (by kernel_rfl) (fun _ _ _ h => h) (Or.inl ⟨by rfl, ?hy9_33⟩) hHeld ?rest9_33
      case hy9_33 => (intro W hSW; (try dsimp only at hSW); go_simp; try with_reducible rfl)
      try simp only [Act.put, List.setIfInBounds_toArray, List.set_cons_zero, List.set_cons_succ]
      refine wpAnyH_take (i := 10) (oi := ⟨some 20, .fieldAddr 24 (.tmp 3) 2, 0, "check.go:258", #[⟨8, .guard⟩], some (8, true)⟩) (v := ?v10_34) rfl (by kernel_rfl) (by kernel_rfl) (by kernel_rfl) (fun _ _ _ h => h) (Or.inl ⟨by rfl, ?hy10_34⟩) hHeld ?rest10_34
      case hy10_34 => (intro W hSW; (try dsimp only at hSW); go_simp; try with_reducible rfl)
      try simp only [Act.put, List.setIfInBounds_toArray, List.set_cons_zero, List.set_cons_succ]
      refine wpAnyH_take (i := 11) (oi := ⟨some 21, .load 9 (.tmp 20), 9, "check.go:258", #[⟨10, .data⟩, ⟨8, .guard⟩], some (8, true)⟩) (v := ?v11_35) rfl (by kernel_rfl) (by kernel_rfl) (by kernel_rfl) (fun _ _ _ h => h) (Or.inl ⟨by rfl, ?hy11_35⟩) hHeld ?rest11_35
      case hy11_35 => (intro W hSW; (try dsimp only at hSW); go_simp; try with_reducible rfl)
      try simp only [Act.put, List.setIfInBounds_toArray, List.set_cons_zero, List.set_cons_succ]
      cases rn with
      | false =>
        refine wpAnyH_ready (rs := [12]) (by kernel_rfl) (by simp) ?_
        refine AllReadyH.cons (o := ⟨some 22, .call { callee := .value (.func 98), args := #[.tmp 19, .tmp 21], argTypes := #[51, 9] }, 4, "check.go:258", #[⟨9, .data⟩, ⟨11, .data⟩, ⟨8, .chain⟩, ⟨8, .guard⟩], some (8, true)⟩) rfl (fun K hK => ?_) AllReadyH.nil
        go_simp
        go_at_call 98
        refine (RN.out _ hHeld).mono ?_
        rintro e w7 ⟨rfl, s7⟩
        clear hHeld
        have hHeld := s7
        clear s7
        refine hK.out _ _ hHeld (fun _ => ?_)
        clear hK K
        try simp only [Act.put, List.setIfInBounds_toArray, List.set_cons_zero, List.set_cons_succ]
        refine wpAnyH_take (i := 13) (oi := ⟨some 23, .pick (.tmp 18) (.tmp 22) (.const (.bool false)), 4, "check.go:258", #[⟨8, .data⟩, ⟨12, .data⟩], none⟩) (v := ?v13_36) rfl (by kernel_rfl) (by kernel_rfl) (by kernel_rfl) (fun _ _ _ h => h) (Or.inl ⟨by rfl, ?hy13_36⟩) hHeld ?rest13_36
        case hy13_36 => (intro W hSW; (try dsimp only at hSW); go_simp; try with_reducible rfl)
        try simp only [Act.put, List.setIfInBounds_toArray, List.set_cons_zero, List.set_cons_succ]
        refine wpAnyH_take (i := 14) (oi := ⟨some 24, .move (.tmp 23), 4, "check.go:258", #[⟨13, .data⟩, ⟨12, .chain⟩], none⟩) (v := ?v14_37) rfl (by kernel_rfl) (by kernel_rfl) (by kernel_rfl) (fun _ _ _ h => h) (Or.inl ⟨by rfl, ?hy14_37⟩) hHeld ?rest14_37
        case hy14_37 => (intro W hSW; (try dsimp only at hSW); go_simp; try with_reducible rfl)
        try simp only [Act.put, List.setIfInBounds_toArray, List.set_cons_zero, List.set_cons_succ]
        refine wpAnyH_take (i := 15) (oi := ⟨some 25, .fieldAddr 24 (.tmp 3) 4, 0, "check.go:258", #[⟨14, .guard⟩], some (14, true)⟩) (v := undef) rfl (by kernel_rfl) (by kernel_rfl) (by kernel_rfl) (fun _ _ _ h => h) (Or.inr ⟨by rfl, rfl⟩) hHeld ?_
        try simp only [Act.put, List.setIfInBounds_toArray, List.set_cons_zero, List.set_cons_succ]
        refine wpAnyH_take (i := 16) (oi := ⟨some 26, .load 22 (.tmp 25), 22, "check.go:258", #[⟨15, .data⟩, ⟨14, .guard⟩], some (14, true)⟩) (v := undef) rfl (by kernel_rfl) (by kernel_rfl) (by kernel_rfl) (fun _ _ _ h => h) (Or.inr ⟨by rfl, rfl⟩) hHeld ?_
        try simp only [Act.put, List.setIfInBounds_toArray, List.set_cons_zero, List.set_cons_succ]
        refine wpAnyH_take (i := 17) (oi := ⟨some 27, .call { callee := .builtin .len, args := #[.tmp 26], argTypes := #[22] }, 3, "check.go:258", #[⟨16, .data⟩, ⟨14, .guard⟩], some (14, true)⟩) (v := undef) rfl (by kernel_rfl) (by kernel_rfl) (by kernel_rfl) (fun _ _ _ h => h) (Or.inr ⟨by rfl, rfl⟩) hHeld ?_
        try simp only [Act.put, List.setIfInBounds_toArray, List.set_cons_zero, List.set_cons_succ]
        refine wpAnyH_take (i := 18) (oi := ⟨some 28, .binOp .leq 3 (.tmp 27) (.const (.int .i64 512)) 3, 4, "check.go:258", #[⟨17, .data⟩, ⟨14, .guard⟩], some (14, true)⟩) (v := undef) rfl (by kernel_rfl) (by kernel_rfl) (by kernel_rfl) (fun _ _ _ h => h) (Or.inr ⟨by rfl, rfl⟩) hHeld ?_
        try simp only [Act.put, List.setIfInBounds_toArray, List.set_cons_zero, List.set_cons_succ]
        refine wpAnyH_take (i := 19) (oi := ⟨some 29, .pick (.tmp 24) (.tmp 28) (.const (.bool false)), 4, "check.go:258", #[⟨14, .data⟩, ⟨18, .data⟩], none⟩) (v := ?v19_38) rfl (by kernel_rfl) (by kernel_rfl) (by kernel_rfl) (fun _ _ _ h => h) (Or.inl ⟨by rfl, ?hy19_38⟩) hHeld ?rest19_38
        case hy19_38 => (intro W hSW; (try dsimp only at hSW); go_simp; try with_reducible rfl)
        try simp only [Act.put, List.setIfInBounds_toArray, List.set_cons_zero, List.set_cons_succ]
        refine wpAnyH_take (i := 20) (oi := ⟨some 30, .move (.tmp 29), 4, "check.go:258", #[⟨19, .data⟩, ⟨14, .chain⟩], none⟩) (v := ?v20_39) rfl (by kernel_rfl) (by kernel_rfl) (by kernel_rfl) (fun _ _ _ h => h) (Or.inl ⟨by rfl, ?hy20_39⟩) hHeld ?rest20_39
        case hy20_39 => (intro W hSW; (try dsimp only at hSW); go_simp; try with_reducible rfl)
        try simp only [Act.put, List.setIfInBounds_toArray, List.set_cons_zero, List.set_cons_succ]
        refine wpAnyH_take (i := 21) (oi := ⟨some 31, .fieldAddr 24 (.tmp 3) 4, 0, "check.go:258", #[⟨20, .guard⟩], some (20, true)⟩) (v := undef) rfl (by kernel_rfl) (by kernel_rfl) (by kernel_rfl) (fun _ _ _ h => h) (Or.inr ⟨by rfl, rfl⟩) hHeld ?_
        try simp only [Act.put, List.setIfInBounds_toArray, List.set_cons_zero, List.set_cons_succ]
        refine wpAnyH_take (i := 22) (oi := ⟨some 32, .load 22 (.tmp 31), 22, "check.go:258", #[⟨21, .data⟩, ⟨20, .guard⟩], some (20, true)⟩) (v := undef) rfl (by kernel_rfl) (by kernel_rfl) (by kernel_rfl) (fun _ _ _ h => h) (Or.inr ⟨by rfl, rfl⟩) hHeld ?_
        try simp only [Act.put, List.setIfInBounds_toArray, List.set_cons_zero, List.set_cons_succ]
        refine wpAnyH_take (i := 23) (oi := ⟨some 33, .move (.tmp 5), 3, "check.go:258", #[⟨20, .guard⟩], some (20, true)⟩) (v := undef) rfl (by kernel_rfl) (by kernel_rfl) (by kernel_rfl) (fun _ _ _ h => h) (Or.inr ⟨by rfl, rfl⟩) hHeld ?_
        try simp only [Act.put, List.setIfInBounds_toArray, List.set_cons_zero, List.set_cons_succ]
        refine wpAnyH_take (i := 24) (oi := ⟨some 34, .slice 22 (.tmp 32) none (some (.tmp 33)) none, 22, "check.go:258", #[⟨22, .data⟩, ⟨23, .data⟩, ⟨20, .guard⟩], some (20, true)⟩) (v := undef) rfl (by kernel_rfl) (by kernel_rfl) (by kernel_rfl) (fun _ _ _ h => h) (Or.inr ⟨by rfl, rfl⟩) hHeld ?_
        try simp only [Act.put, List.setIfInBounds_toArray, List.set_cons_zero, List.set_cons_succ]
        refine wpAnyH_take (i := 25) (oi := ⟨some 35, .load 51 (.tmp 2), 51, "check.go:258", #[⟨20, .guard⟩], some (20, true)⟩) (v := undef) rfl (by kernel_rfl) (by kernel_rfl) (by kernel_rfl) (fun _ _ _ h => h) (Or.inr ⟨by rfl, rfl⟩) hHeld ?_
        try simp only [Act.put, List.setIfInBounds_toArray, List.set_cons_zero, List.set_cons_succ]
        refine wpAnyH_ready (rs := [26]) (by kernel_rfl) (by simp) ?_
        refine AllReadyH.cons (o := ⟨some 36, .call { callee := .value (.func 65), args := #[.tmp 35], argTypes := #[51] }, 51, "check.go:259", #[⟨25, .data⟩, ⟨20, .chain⟩, ⟨20, .guard⟩], some (20, true)⟩) rfl (fun K hK => ?_) AllReadyH.nil
        go_simp
        refine hK.out _ _ hHeld (fun _ => ?_)
        clear hK K
        try simp only [Act.put, List.setIfInBounds_toArray, List.set_cons_zero, List.set_cons_succ]
        refine wpAnyH_ready (rs := [27]) (by kernel_rfl) (by simp) ?_
        refine AllReadyH.cons (o := ⟨some 37, .makeFunc (.func 25) #[.tmp 36] #[], 53, "check.go:258", #[⟨26, .data⟩, ⟨20, .guard⟩], some (20, true)⟩) rfl (fun K hK => ?_) AllReadyH.nil
        go_simp
        refine hK.out _ _ hHeld (fun _ => ?_)
        clear hK K
        try simp only [Act.put, List.setIfInBounds_toArray, List.set_cons_zero, List.set_cons_succ]
        refine wpAnyH_ready (rs := [28]) (by kernel_rfl) (by simp) ?_
        refine AllReadyH.cons (o := ⟨some 38, .call { callee := .value (.func 64), args := #[.tmp 34, .tmp 37], argTypes := #[22, 53] }, 4, "check.go:259", #[⟨24, .data⟩, ⟨27, .data⟩, ⟨26, .chain⟩, ⟨20, .guard⟩], some (20, true)⟩) rfl (fun K hK => ?_) AllReadyH.nil
        go_simp
        refine hK.out _ _ hHeld (fun _ => ?_)
        clear hK K
        try simp only [Act.put, List.setIfInBounds_toArray, List.set_cons_zero, List.set_cons_succ]
        refine wpAnyH_take (i := 29) (oi := ⟨some 39, .pick (.tmp 30) (.tmp 38) (.const (.bool false)), 4, "check.go:258", #[⟨20, .data⟩, ⟨28, .data⟩], none⟩) (v := ?v29_40) rfl (by kernel_rfl) (by kernel_rfl) (by kernel_rfl) (fun _ _ _ h => h) (Or.inl ⟨by rfl, ?hy29_40⟩) hHeld ?rest29_40
        case hy29_40 => (intro W hSW; (try dsimp only at hSW); go_simp; try with_reducible rfl)
        try simp only [Act.put, List.setIfInBounds_toArray, List.set_cons_zero, List.set_cons_succ]
        refine wpAnyH_take (i := 30) (oi := ⟨some 40, .move (.tmp 39), 4, "check.go:258", #[⟨29, .data⟩, ⟨28, .chain⟩], none⟩) (v := ?v30_41) rfl (by kernel_rfl) (by kernel_rfl) (by kernel_rfl) (fun _ _ _ h => h) (Or.inl ⟨by rfl, ?hy30_41⟩) hHeld ?rest30_41
        case hy30_41 => (intro W hSW; (try dsimp only at hSW); go_simp; try with_reducible rfl)
        try simp only [Act.put, List.setIfInBounds_toArray, List.set_cons_zero, List.set_cons_succ]
        refine wpAnyH_take (i := 31) (oi := ⟨some 41, .fieldAddr 24 (.tmp 3) 4, 0, "check.go:258", #[⟨30, .guard⟩], some (30, true)⟩) (v := undef) rfl (by kernel_rfl) (by kernel_rfl) (by kernel_rfl) (fun _ _ _ h => h) (Or.inr ⟨by rfl, rfl⟩) hHeld ?_
        try simp only [Act.put, List.setIfInBounds_toArray, List.set_cons_zero, List.set_cons_succ]
        refine wpAnyH_take (i := 32) (oi := ⟨some 42, .load 22 (.tmp 41), 22, "check.go:258", #[⟨31, .data⟩, ⟨30, .guard⟩], some (30, true)⟩) (v := undef) rfl (by kernel_rfl) (by kernel_rfl) (by kernel_rfl) (fun _ _ _ h => h) (Or.inr ⟨by rfl, rfl⟩) hHeld ?_
        try simp only [Act.put, List.setIfInBounds_toArray, List.set_cons_zero, List.set_cons_succ]
        refine wpAnyH_take (i := 33) (oi := ⟨some 43, .move (.tmp 5), 3, "check.go:258", #[⟨30, .guard⟩], some (30, true)⟩) (v := undef) rfl (by kernel_rfl) (by kernel_rfl) (by kernel_rfl) (fun _ _ _ h => h) (Or.inr ⟨by rfl, rfl⟩) hHeld ?_
        try simp only [Act.put, List.setIfInBounds_toArray, List.set_cons_zero, List.set_cons_succ]
        refine wpAnyH_take (i := 34) (oi := ⟨some 44, .slice 22 (.tmp 42) (some (.tmp 43)) none none, 22, "check.go:258", #[⟨32, .data⟩, ⟨33, .data⟩, ⟨30, .guard⟩], some (30, true)⟩) (v := undef) rfl (by kernel_rfl) (by kernel_rfl) (by kernel_rfl) (fun _ _ _ h => h) (Or.inr ⟨by rfl, rfl⟩) hHeld ?_
        try simp only [Act.put, List.setIfInBounds_toArray, List.set_cons_zero, List.set_cons_succ]
        refine wpAnyH_take (i := 35) (oi := ⟨some 45, .load 51 (.tmp 2), 51, "check.go:258", #[⟨30, .guard⟩], some (30, true)⟩) (v := undef) rfl (by kernel_rfl) (by kernel_rfl) (by kernel_rfl) (fun _ _ _ h => h) (Or.inr ⟨by rfl, rfl⟩) hHeld ?_
        try simp only [Act.put, List.setIfInBounds_toArray, List.set_cons_zero, List.set_cons_succ]
        refine wpAnyH_ready (rs := [36]) (by kernel_rfl) (by simp) ?_
        refine AllReadyH.cons (o := ⟨some 46, .makeFunc (.func 99) #[.tmp 45] #[], 53, "check.go:258", #[⟨35, .data⟩, ⟨30, .guard⟩], some (30, true)⟩) rfl (fun K hK => ?_) AllReadyH.nil
        go_simp
        refine hK.out _ _ hHeld (fun _ => ?_)
        clear hK K
        try simp only [Act.put, List.setIfInBounds_toArray, List.set_cons_zero, List.set_cons_succ]
        refine wpAnyH_ready (rs := [37]) (by kernel_rfl) (by simp) ?_
        refine AllReadyH.cons (o := ⟨some 47, .call { callee := .value (.func 64), args := #[.tmp 44, .tmp 46], argTypes := #[22, 53] }, 4, "check.go:259", #[⟨34, .data⟩, ⟨36, .data⟩, ⟨30, .chain⟩, ⟨30, .guard⟩], some (30, true)⟩) rfl (fun K hK => ?_) AllReadyH.nil
        go_simp
        refine hK.out _ _ hHeld (fun _ => ?_)
        clear hK K
        try simp only [Act.put, List.setIfInBounds_toArray, List.set_cons_zero, List.set_cons_succ]
        refine wpAnyH_take (i := 38) (oi := ⟨some 48, .pick (.tmp 40) (.tmp 47) (.const (.bool false)), 4, "check.go:258", #[⟨30, .data⟩, ⟨37, .data⟩], none⟩) (v := ?v38_42) rfl (by kernel_rfl) (by kernel_rfl) (by kernel_rfl) (fun _ _ _ h => h) (Or.inl ⟨by rfl, ?hy38_42⟩) hHeld ?rest38_42
        case hy38_42 => (intro W hSW; (try dsimp only at hSW); go_simp; try with_reducible rfl)
        try simp only [Act.put, List.setIfInBounds_toArray, List.set_cons_zero, List.set_cons_succ]
        refine wpAnyH_take (i := 39) (oi := ⟨some 4, .assign (.tmp 48), 4, "check.go:258", #[⟨38, .data⟩, ⟨37, .chain⟩, ⟨0, .phase⟩, ⟨1, .phase⟩, ⟨2, .phase⟩, ⟨3, .phase⟩, ⟨4, .phase⟩, ⟨5, .phase⟩, ⟨6, .phase⟩, ⟨7, .phase⟩, ⟨8, .phase⟩, ⟨9, .phase⟩, ⟨10, .phase⟩, ⟨11, .phase⟩, ⟨12, .phase⟩, ⟨13, .phase⟩, ⟨14, .phase⟩, ⟨15, .phase⟩, ⟨16, .phase⟩, ⟨17, .phase⟩, ⟨18, .phase⟩, ⟨19, .phase⟩, ⟨20, .phase⟩, ⟨21, .phase⟩, ⟨22, .phase⟩, ⟨23, .phase⟩, ⟨24, .phase⟩, ⟨25, .phase⟩, ⟨26, .phase⟩, ⟨27, .phase⟩, ⟨28, .phase⟩, ⟨29, .phase⟩, ⟨30, .phase⟩, ⟨31, .phase⟩, ⟨32, .phase⟩, ⟨33, .phase⟩, ⟨34, .phase⟩, ⟨35, .phase⟩, ⟨36, .phase⟩, ⟨37, .phase⟩, ⟨38, .phase⟩], none⟩) (v := ?v39_43) rfl (by kernel_rfl) (by kernel_rfl) (by kernel_rfl) (fun _ _ _ h => h) (Or.inl ⟨by rfl, ?hy39_43⟩) hHeld ?rest39_43
        case hy39_43 => (intro W hSW; (try dsimp only at hSW); go_simp; try with_reducible rfl)
        try simp only [Act.put, List.setIfInBounds_toArray, List.set_cons_zero, List.set_cons_succ]
        refine wpAnyH_done (by kernel_rfl) ?_ _
        have HS := Lib.hid hHeld
        clear hHeld
        go_wp2_with fail
        go_ret
        exact ⟨by rw [HO.out]; simp [*], HS.out.2.2.2.2.2.2.2⟩
      | true =>
        refine wpAnyH_ready (rs := [12]) (by kernel_rfl) (by simp) ?_
        refine AllReadyH.cons (o := ⟨some 22, .call { callee := .value (.func 98), args := #[.tmp 19, .tmp 21], argTypes := #[51, 9] }, 4, "check.go:258", #[⟨9, .data⟩, ⟨11, .data⟩, ⟨8, .chain⟩, ⟨8, .guard⟩], some (8, true)⟩) rfl (fun K hK => ?_) AllReadyH.nil
        go_simp
        go_at_call 98
        refine (RN.out _ hHeld).mono ?_
        rintro e w7 ⟨rfl, s7⟩
        clear hHeld
        have hHeld := s7
        clear s7
        refine hK.out _ _ hHeld (fun _ => ?_)
        clear hK K
        try simp only [Act.put, List.setIfInBounds_toArray, List.set_cons_zero, List.set_cons_succ]
        refine wpAnyH_take (i := 13) (oi := ⟨some 23, .pick (.tmp 18) (.tmp 22) (.const (.bool false)), 4, "check.go:258", #[⟨8, .data⟩, ⟨12, .data⟩], none⟩) (v := ?v13_44) rfl (by kernel_rfl) (by kernel_rfl) (by kernel_rfl) (fun _ _ _ h => h) (Or.inl ⟨by rfl, ?hy13_44⟩) hHeld ?rest13_44
        case hy13_44 => (intro W hSW; (try dsimp only at hSW); go_simp; try with_reducible rfl)
        try simp only [Act.put, List.setIfInBounds_toArray, List.set_cons_zero, List.set_cons_succ]
        refine wpAnyH_take (i := 14) (oi := ⟨some 24, .move (.tmp 23), 4, "check.go:258", #[⟨13, .data⟩, ⟨12, .chain⟩], none⟩) (v := ?v14_45) rfl (by kernel_rfl) (by kernel_rfl) (by kernel_rfl) (fun _ _ _ h => h) (Or.inl ⟨by rfl, ?hy14_45⟩) hHeld ?rest14_45
        case hy14_45 => (intro W hSW; (try dsimp only at hSW); go_simp; try with_reducible rfl)
        try simp only [Act.put, List.setIfInBounds_toArray, List.set_cons_zero, List.set_cons_succ]
        refine wpAnyH_take (i := 15) (oi := ⟨some 25, .fieldAddr 24 (.tmp 3) 4, 0, "check.go:258", #[⟨14, .guard⟩], some (14, true)⟩) (v := ?v15_46) rfl (by kernel_rfl) (by kernel_rfl) (by kernel_rfl) (fun _ _ _ h => h) (Or.inl ⟨by rfl, ?hy15_46⟩) hHeld ?rest15_46
        case hy15_46 => (intro W hSW; (try dsimp only at hSW); go_simp; try with_reducible rfl)
        try simp only [Act.put, List.setIfInBounds_toArray, List.set_cons_zero, List.set_cons_succ]
        refine wpAnyH_take (i := 16) (oi := ⟨some 26, .load 22 (.tmp 25), 22, "check.go:258", #[⟨15, .data⟩, ⟨14, .guard⟩], some (14, true)⟩) (v := ?v16_47) rfl (by kernel_rfl) (by kernel_rfl) (by kernel_rfl) (fun _ _ _ h => h) (Or.inl ⟨by rfl, ?hy16_47⟩) hHeld ?rest16_47
        case hy16_47 => (intro W hSW; (try dsimp only at hSW); go_simp; try with_reducible rfl)
        try simp only [Act.put, List.setIfInBounds_toArray, List.set_cons_zero, List.set_cons_succ]
        refine wpAnyH_take (i := 17) (oi := ⟨some 27, .call { callee := .builtin .len, args := #[.tmp 26], argTypes := #[22] }, 3, "check.go:258", #[⟨16, .data⟩, ⟨14, .guard⟩], some (14, true)⟩) (v := ?v17_48) rfl (by kernel_rfl) (by kernel_rfl) (by kernel_rfl) (fun _ _ _ h => h) (Or.inl ⟨by rfl, ?hy17_48⟩) hHeld ?rest17_48
        case hy17_48 => (intro W hSW; (try dsimp only at hSW); go_simp; try with_reducible rfl)
        try simp only [Act.put, List.setIfInBounds_toArray, List.set_cons_zero, List.set_cons_succ]
        cases hl5 : decide (((l.length : Nat) : Int) ≤ 512) with
        | false =>
          refine wpAnyH_take (i := 18) (oi := ⟨some 28, .binOp .leq 3 (.tmp 27) (.const (.int .i64 512)) 3, 4, "check.go:258", #[⟨17, .data⟩, ⟨14, .guard⟩], some (14, true)⟩) (v := ?v18_49) rfl (by kernel_rfl) (by kernel_rfl) (by kernel_rfl) (fun _ _ _ h => h) (Or.inl ⟨by rfl, ?hy18_49⟩) hHeld ?rest18_49
          case hy18_49 => (intro W hSW; (try dsimp only at hSW); go_simp; try with_reducible rfl)
          try simp only [Act.put, List.setIfInBounds_toArray, List.set_cons_zero, List.set_cons_succ]
          refine wpAnyH_take (i := 19) (oi := ⟨some 29, .pick (.tmp 24) (.tmp 28) (.const (.bool false)), 4, "check.go:258", #[⟨14, .data⟩, ⟨18, .data⟩], none⟩) (v := ?v19_50) rfl (by kernel_rfl) (by kernel_rfl) (by kernel_rfl) (fun _ _ _ h => h) (Or.inl ⟨by rfl, ?hy19_50⟩) hHeld ?rest19_50
          case hy19_50 => (intro W hSW; (try dsimp only at hSW); go_simp; try with_reducible rfl)
          try simp only [Act.put, List.setIfInBounds_toArray, List.set_cons_zero, List.set_cons_succ]
          refine wpAnyH_take (i := 20) (oi := ⟨some 30, .move (.tmp 29), 4, "check.go:258", #[⟨19, .data⟩, ⟨14, .chain⟩], none⟩) (v := ?v20_51) rfl (by kernel_rfl) (by kernel_rfl) (by kernel_rfl) (fun _ _ _ h => h) (Or.inl ⟨by rfl, ?hy20_51⟩) hHeld ?rest20_51
          case hy20_51 => (intro W hSW; (try dsimp only at hSW); go_simp; try with_reducible rfl)
          try simp only [Act.put, List.setIfInBounds_toArray, List.set_cons_zero, List.set_cons_succ]
          refine wpAnyH_take (i := 21) (oi := ⟨some 31, .fieldAddr 24 (.tmp 3) 4, 0, "check.go:258", #[⟨20, .guard⟩], some (20, true)⟩) (v := undef) rfl (by kernel_rfl) (by kernel_rfl) (by kernel_rfl) (fun _ _ _ h => h) (Or.inr ⟨by rfl, rfl⟩) hHeld ?_
          try simp only [Act.put, List.setIfInBounds_toArray, List.set_cons_zero, List.set_cons_succ]
          refine wpAnyH_take (i := 22) (oi := ⟨some 32, .load 22 (.tmp 31), 22, "check.go:258", #[⟨21, .data⟩, ⟨20, .guard⟩], some (20, true)⟩) (v := undef) rfl (by kernel_rfl) (by kernel_rfl) (by kernel_rfl) (fun _ _ _ h => h) (Or.inr ⟨by rfl, rfl⟩) hHeld ?_
          try simp only [Act.put, List.setIfInBounds_toArray, List.set_cons_zero, List.set_cons_succ]
          refine wpAnyH_take (i := 23) (oi := ⟨some 33, .move (.tmp 5), 3, "check.go:258", #[⟨20, .guard⟩], some (20, true)⟩) (v := undef) rfl (by kernel_rfl) (by kernel_rfl) (by kernel_rfl) (fun _ _ _ h => h) (Or.inr ⟨by rfl, rfl⟩) hHeld ?_
          try simp only [Act.put, List.setIfInBounds_toArray, List.set_cons_zero, List.set_cons_succ]
          refine wpAnyH_take (i := 24) (oi := ⟨some 34, .slice 22 (.tmp 32) none (some (.tmp 33)) none, 22, "check.go:258", #[⟨22, .data⟩, ⟨23, .data⟩, ⟨20, .guard⟩], some (20, true)⟩) (v := undef) rfl (by kernel_rfl) (by kernel_rfl) (by kernel_rfl) (fun _ _ _ h => h) (Or.inr ⟨by rfl, rfl⟩) hHeld ?_
          try simp only [Act.put, List.setIfInBounds_toArray, List.set_cons_zero, List.set_cons_succ]
          refine wpAnyH_take (i := 25) (oi := ⟨some 35, .load 51 (.tmp 2), 51, "check.go:258", #[⟨20, .guard⟩], some (20, true)⟩) (v := undef) rfl (by kernel_rfl) (by kernel_rfl) (by kernel_rfl) (fun _ _ _ h => h) (Or.inr ⟨by rfl, rfl⟩) hHeld ?_
          try simp only [Act.put, List.setIfInBounds_toArray, List.set_cons_zero, List.set_cons_succ]
          refine wpAnyH_ready (rs := [26]) (by kernel_rfl) (by simp) ?_
          refine AllReadyH.cons (o := ⟨some 36, .call { callee := .value (.func 65), args := #[.tmp 35], argTypes := #[51] }, 51, "check.go:259", #[⟨25, .data⟩, ⟨20, .chain⟩, ⟨20, .guard⟩], some (20, true)⟩) rfl (fun K hK => ?_) AllReadyH.nil
          go_simp
          refine hK.out _ _ hHeld (fun _ => ?_)
          clear hK K
          try simp only [Act.put, List.setIfInBounds_toArray, List.set_cons_zero, List.set_cons_succ]
          refine wpAnyH_ready (rs := [27]) (by kernel_rfl) (by simp) ?_
          refine AllReadyH.cons (o := ⟨some 37, .makeFunc (.func 25) #[.tmp 36] #[], 53, "check.go:258", #[⟨26, .data⟩, ⟨20, .guard⟩], some (20, true)⟩) rfl (fun K hK => ?_) AllReadyH.nil
          go_simp
          refine hK.out _ _ hHeld (fun _ => ?_)
          clear hK K
          try simp only [Act.put, List.setIfInBounds_toArray, List.set_cons_zero, List.set_cons_succ]
          refine wpAnyH_ready (rs := [28]) (by kernel_rfl) (by simp) ?_
          refine AllReadyH.cons (o := ⟨some 38, .call { callee := .value (.func 64), args := #[.tmp 34, .tmp 37], argTypes := #[22, 53] }, 4, "check.go:259", #[⟨24, .data⟩, ⟨27, .data⟩, ⟨26, .chain⟩, ⟨20, .guard⟩], some (20, true)⟩) rfl (fun K hK => ?_) AllReadyH.nil
          go_simp
          refine hK.out _ _ hHeld (fun _ => ?_)
          clear hK K
          try simp only [Act.put, List.setIfInBounds_toArray, List.set_cons_zero, List.set_cons_succ]
          refine wpAnyH_take (i := 29) (oi := ⟨some 39, .pick (.tmp 30) (.tmp 38) (.const (.bool false)), 4, "check.go:258", #[⟨20, .data⟩, ⟨28, .data⟩], none⟩) (v := ?v29_52) rfl (by kernel_rfl) (by kernel_rfl) (by kernel_rfl) (fun _ _ _ h => h) (Or.inl ⟨by rfl, ?hy29_52⟩) hHeld ?rest29_52
          case hy29_52 => (intro W hSW; (try dsimp only at hSW); go_simp; try with_reducible rfl)
          try simp only [Act.put, List.setIfInBounds_toArray, List.set_cons_zero, List.set_cons_succ]
          refine wpAnyH_take (i := 30) (oi := ⟨some 40, .move (.tmp 39), 4, "check.go:258", #[⟨29, .data⟩, ⟨28, .chain⟩], none⟩) (v := ?v30_53) rfl (by kernel_rfl) (by kernel_rfl) (by kernel_rfl) (fun _ _ _ h => h) (Or.inl ⟨by rfl, ?hy30_53⟩) hHeld ?rest30_53
          case hy30_53 => (intro W hSW; (try dsimp only at hSW); go_simp; try with_reducible rfl)
          try simp only [Act.put, List.setIfInBounds_toArray, List.set_cons_zero, List.set_cons_succ]
          refine wpAnyH_take (i := 31) (oi := ⟨some 41, .fieldAddr 24 (.tmp 3) 4, 0, "check.go:258", #[⟨30, .guard⟩], some (30, true)⟩) (v := undef) rfl (by kernel_rfl) (by kernel_rfl) (by kernel_rfl) (fun _ _ _ h => h) (Or.inr ⟨by rfl, rfl⟩) hHeld ?_
          try simp only [Act.put, List.setIfInBounds_toArray, List.set_cons_zero, List.set_cons_succ]
          refine wpAnyH_take (i := 32) (oi := ⟨some 42, .load 22 (.tmp 41), 22, "check.go:258", #[⟨31, .data⟩, ⟨30, .guard⟩], some (30, true)⟩) (v := undef) rfl (by kernel_rfl) (by kernel_rfl) (by kernel_rfl) (fun _ _ _ h => h) (Or.inr ⟨by rfl, rfl⟩) hHeld ?_
          try simp only [Act.put, List.setIfInBounds_toArray, List.set_cons_zero, List.set_cons_succ]
          refine wpAnyH_take (i := 33) (oi := ⟨some 43, .move (.tmp 5), 3, "check.go:258", #[⟨30, .guard⟩], some (30, true)⟩) (v := undef) rfl (by kernel_rfl) (by kernel_rfl) (by kernel_rfl) (fun _ _ _ h => h) (Or.inr ⟨by rfl, rfl⟩) hHeld ?_
          try simp only [Act.put, List.setIfInBounds_toArray, List.set_cons_zero, List.set_cons_succ]
          refine wpAnyH_take (i := 34) (oi := ⟨some 44, .slice 22 (.tmp 42) (some (.tmp 43)) none none, 22, "check.go:258", #[⟨32, .data⟩, ⟨33, .data⟩, ⟨30, .guard⟩], some (30, true)⟩) (v := undef) rfl (by kernel_rfl) (by kernel_rfl) (by kernel_rfl) (fun _ _ _ h => h) (Or.inr ⟨by rfl, rfl⟩) hHeld ?_
          try simp only [Act.put, List.setIfInBounds_toArray, List.set_cons_zero, List.set_cons_succ]
          refine wpAnyH_take (i := 35) (oi := ⟨some 45, .load 51 (.tmp 2), 51, "check.go:258", #[⟨30, .guard⟩], some (30, true)⟩) (v := undef) rfl (by kernel_rfl) (by kernel_rfl) (by kernel_rfl) (fun _ _ _ h => h) (Or.inr ⟨by rfl, rfl⟩) hHeld ?_
          try simp only [Act.put, List.setIfInBounds_toArray, List.set_cons_zero, List.set_cons_succ]
          refine wpAnyH_ready (rs := [36]) (by kernel_rfl) (by simp) ?_
          refine AllReadyH.cons (o := ⟨some 46, .makeFunc (.func 99) #[.tmp 45] #[], 53, "check.go:258", #[⟨35, .data⟩, ⟨30, .guard⟩], some (30, true)⟩) rfl (fun K hK => ?_) AllReadyH.nil
          go_simp
          refine hK.out _ _ hHeld (fun _ => ?_)
          clear hK K
          try simp only [Act.put, List.setIfInBounds_toArray, List.set_cons_zero, List.set_cons_succ]
          refine wpAnyH_ready (rs := [37]) (by kernel_rfl) (by simp) ?_
          refine AllReadyH.cons (o := ⟨some 47, .call { callee := .value (.func 64), args := #[.tmp 44, .tmp 46], argTypes := #[22, 53] }, 4, "check.go:259", #[⟨34, .data⟩, ⟨36, .data⟩, ⟨30, .chain⟩, ⟨30, .guard⟩], some (30, true)⟩) rfl (fun K hK => ?_) AllReadyH.nil
          go_simp
          refine hK.out _ _ hHeld (fun _ => ?_)
          clear hK K
          try simp only [Act.put, List.setIfInBounds_toArray, List.set_cons_zero, List.set_cons_succ]
          refine wpAnyH_take (i := 38) (oi := ⟨some 48, .pick (.tmp 40) (.tmp 47) (.const (.bool false)), 4, "check.go:258", #[⟨30, .data⟩, ⟨37, .data⟩], none⟩) (v := ?v38_54) rfl (by kernel_rfl) (by kernel_rfl) (by kernel_rfl) (fun _ _ _ h => h) (Or.inl ⟨by rfl, ?hy38_54⟩) hHeld ?rest38_54
          case hy38_54 => (intro W hSW; (try dsimp only at hSW); go_simp; try with_reducible rfl)
          try simp only [Act.put, List.setIfInBounds_toArray, List.set_cons_zero, List.set_cons_succ]
          refine wpAnyH_take (i := 39) (oi := ⟨some 4, .assign (.tmp 48), 4, "check.go:258", #[⟨38, .data⟩, ⟨37, .chain⟩, ⟨0, .phase⟩, ⟨1, .phase⟩, ⟨2, .phase⟩, ⟨3, .phase⟩, ⟨4, .phase⟩, ⟨5, .phase⟩, ⟨6, .phase⟩, ⟨7, .phase⟩, ⟨8, .phase⟩, ⟨9, .phase⟩, ⟨10, .phase⟩, ⟨11, .phase⟩, ⟨12, .phase⟩, ⟨13, .phase⟩, ⟨14, .phase⟩, ⟨15, .phase⟩, ⟨16, .phase⟩, ⟨17, .phase⟩, ⟨18, .phase⟩, ⟨19, .phase⟩, ⟨20, .phase⟩, ⟨21, .phase⟩, ⟨22, .phase⟩, ⟨23, .phase⟩, ⟨24, .phase⟩, ⟨25, .phase⟩, ⟨26, .phase⟩, ⟨27, .phase⟩, ⟨28, .phase⟩, ⟨29, .phase⟩, ⟨30, .phase⟩, ⟨31, .phase⟩, ⟨32, .phase⟩, ⟨33, .phase⟩, ⟨34, .phase⟩, ⟨35, .phase⟩, ⟨36, .phase⟩, ⟨37, .phase⟩, ⟨38, .phase⟩], none⟩) (v := ?v39_55) rfl (by kernel_rfl) (by kernel_rfl) (by kernel_rfl) (fun _ _ _ h => h) (Or.inl ⟨by rfl, ?hy39_55⟩) hHeld ?rest39_55
          case hy39_55 => (intro W hSW; (try dsimp only at hSW); go_simp; try with_reducible rfl)
          try simp only [Act.put, List.setIfInBounds_toArray, List.set_cons_zero, List.set_cons_succ]
          refine wpAnyH_done (by kernel_rfl) ?_ _
          have HS := Lib.hid hHeld
          clear hHeld
          go_wp2_with fail
          go_ret
          exact ⟨by rw [HO.out]; simp [*], HS.out.2.2.2.2.2.2.2⟩
        | true =>
          refine wpAnyH_take (i := 18) (oi := ⟨some 28, .binOp .leq 3 (.tmp 27) (.const (.int .i64 512)) 3, 4, "check.go:258", #[⟨17, .data⟩, ⟨14, .guard⟩], some (14, true)⟩) (v := ?v18_56) rfl (by kernel_rfl) (by kernel_rfl) (by kernel_rfl) (fun _ _ _ h => h) (Or.inl ⟨by rfl, ?hy18_56⟩) hHeld ?rest18_56
          case hy18_56 => (intro W hSW; (try dsimp only at hSW); go_simp; try with_reducible rfl)
          try simp only [Act.put, List.setIfInBounds_toArray, List.set_cons_zero, List.set_cons_succ]
          refine wpAnyH_take (i := 19) (oi := ⟨some 29, .pick (.tmp 24) (.tmp 28) (.const (.bool false)), 4, "check.go:258", #[⟨14, .data⟩, ⟨18, .data⟩], none⟩) (v := ?v19_57) rfl (by kernel_rfl) (by kernel_rfl) (by kernel_rfl) (fun _ _ _ h => h) (Or.inl ⟨by rfl, ?hy19_57⟩) hHeld ?rest19_57
          case hy19_57 => (intro W hSW; (try dsimp only at hSW); go_simp; try with_reducible rfl)
          try simp only [Act.put, List.setIfInBounds_toArray, List.set_cons_zero, List.set_cons_succ]
          refine wpAnyH_take (i := 20) (oi := ⟨some 30, .move (.tmp 29), 4, "check.go:258", #[⟨19, .data⟩, ⟨14, .chain⟩], none⟩) (v := ?v20_58) rfl (by kernel_rfl) (by kernel_rfl) (by kernel_rfl) (fun _ _ _ h => h) (Or.inl ⟨by rfl, ?hy20_58⟩) hHeld ?rest20_58
          case hy20_58 => (intro W hSW; (try dsimp only at hSW); go_simp; try with_reducible rfl)
          try simp only [Act.put, List.setIfInBounds_toArray, List.set_cons_zero, List.set_cons_succ]
          refine wpAnyH_take (i := 21) (oi := ⟨some 31, .fieldAddr 24 (.tmp 3) 4, 0, "check.go:258", #[⟨20, .guard⟩], some (20, true)⟩) (v := ?v21_59) rfl (by kernel_rfl) (by kernel_rfl) (by kernel_rfl) (fun _ _ _ h => h) (Or.inl ⟨by rfl, ?hy21_59⟩) hHeld ?rest21_59
          case hy21_59 => (intro W hSW; (try dsimp only at hSW); go_simp; try with_reducible rfl)
          try simp only [Act.put, List.setIfInBounds_toArray, List.set_cons_zero, List.set_cons_succ]
          refine wpAnyH_take (i := 22) (oi := ⟨some 32, .load 22 (.tmp 31), 22, "check.go:258", #[⟨21, .data⟩, ⟨20, .guard⟩], some (20, true)⟩) (v := ?v22_60) rfl (by kernel_rfl) (by kernel_rfl) (by kernel_rfl) (fun _ _ _ h => h) (Or.inl ⟨by rfl, ?hy22_60⟩) hHeld ?rest22_60
          case hy22_60 => (intro W hSW; (try dsimp only at hSW); go_simp; try with_reducible rfl)
          try simp only [Act.put, List.setIfInBounds_toArray, List.set_cons_zero, List.set_cons_succ]
          refine wpAnyH_take (i := 23) (oi := ⟨some 33, .move (.tmp 5), 3, "check.go:258", #[⟨20, .guard⟩], some (20, true)⟩) (v := ?v23_61) rfl (by kernel_rfl) (by kernel_rfl) (by kernel_rfl) (fun _ _ _ h => h) (Or.inl ⟨by rfl, ?hy23_61⟩) hHeld ?rest23_61
          case hy23_61 => (intro W hSW; (try dsimp only at hSW); go_simp; try with_reducible rfl)
          try simp only [Act.put, List.setIfInBounds_toArray, List.set_cons_zero, List.set_cons_succ]
          refine wpAnyH_take (i := 24) (oi := ⟨some 34, .slice 22 (.tmp 32) none (some (.tmp 33)) none, 22, "check.go:258", #[⟨22, .data⟩, ⟨23, .data⟩, ⟨20, .guard⟩], some (20, true)⟩) (v := .slice a1 u lc) rfl (by kernel_rfl) (by kernel_rfl) (by kernel_rfl) (fun _ _ _ h => h) (Or.inl ⟨by rfl, ?hy24_62⟩) hHeld ?rest24_62
          case hy24_62 => (intro W hSW; exact run_sliceH rfl rfl rfl hu0 hu1 E1.out W)
          try simp only [Act.put, List.setIfInBounds_toArray, List.set_cons_zero, List.set_cons_succ]
          refine wpAnyH_take (i := 25) (oi := ⟨some 35, .load 51 (.tmp 2), 51, "check.go:258", #[⟨20, .guard⟩], some (20, true)⟩) (v := ?v25_63) rfl (by kernel_rfl) (by kernel_rfl) (by kernel_rfl) (fun _ _ _ h => h) (Or.inl ⟨by rfl, ?hy25_63⟩) hHeld ?rest25_63
          case hy25_63 => (intro W hSW; (try dsimp only at hSW); go_simp; try with_reducible rfl)
          try simp only [Act.put, List.setIfInBounds_toArray, List.set_cons_zero, List.set_cons_succ]
          refine wpAnyH_ready (rs := [26]) (by kernel_rfl) (by simp) ?_
          refine AllReadyH.cons (o := ⟨some 36, .call { callee := .value (.func 65), args := #[.tmp 35], argTypes := #[51] }, 51, "check.go:259", #[⟨25, .data⟩, ⟨20, .chain⟩, ⟨20, .guard⟩], some (20, true)⟩) rfl (fun K hK => ?_) AllReadyH.nil
          go_simp
          go_at_call 65
          refine (DP.out _ hHeld).mono ?_
          rintro e w7 ⟨rfl, s7⟩
          clear hHeld
          have hHeld := s7
          clear s7
          refine hK.out _ _ hHeld (fun _ => ?_)
          clear hK K
          try simp only [Act.put, List.setIfInBounds_toArray, List.set_cons_zero, List.set_cons_succ]
          refine wpAnyH_ready (rs := [27]) (by kernel_rfl) (by simp) ?_
          refine AllReadyH.cons (o := ⟨some 37, .makeFunc (.func 25) #[.tmp 36] #[], 53, "check.go:258", #[⟨26, .data⟩, ⟨20, .guard⟩], some (20, true)⟩) rfl (fun K hK => ?_) AllReadyH.nil
          go_simp
          refine hK.out _ _ hHeld (fun _ => ?_)
          clear hK K
          try simp only [Act.put, List.setIfInBounds_toArray, List.set_cons_zero, List.set_cons_succ]
          cases r1 with
          | false =>
            refine wpAnyH_ready (rs := [28]) (by kernel_rfl) (by simp) ?_
            refine AllReadyH.cons (o := ⟨some 38, .call { callee := .value (.func 64), args := #[.tmp 34, .tmp 37], argTypes := #[22, 53] }, 4, "check.go:259", #[⟨24, .data⟩, ⟨27, .data⟩, ⟨26, .chain⟩, ⟨20, .guard⟩], some (20, true)⟩) rfl (fun K hK => ?_) AllReadyH.nil
            go_simp
            go_at_call 64
            refine (A1.out _ hHeld).mono ?_
            rintro e w7 ⟨rfl, s7⟩
            clear hHeld
            have hHeld := s7
            clear s7
            refine hK.out _ _ hHeld (fun _ => ?_)
            clear hK K
            try simp only [Act.put, List.setIfInBounds_toArray, List.set_cons_zero, List.set_cons_succ]
            refine wpAnyH_take (i := 29) (oi := ⟨some 39, .pick (.tmp 30) (.tmp 38) (.const (.bool false)), 4, "check.go:258", #[⟨20, .data⟩, ⟨28, .data⟩], none⟩) (v := ?v29_64) rfl (by kernel_rfl) (by kernel_rfl) (by kernel_rfl) (fun _ _ _ h => h) (Or.inl ⟨by rfl, ?hy29_64⟩) hHeld ?rest29_64
            case hy29_64 => (intro W hSW; (try dsimp only at hSW); go_simp; try with_reducible rfl)
            try simp only [Act.put, List.setIfInBounds_toArray, List.set_cons_zero, List.set_cons_succ]
            refine wpAnyH_take (i := 30) (oi := ⟨some 40, .move (.tmp 39), 4, "check.go:258", #[⟨29, .data⟩, ⟨28, .chain⟩], none⟩) (v := ?v30_65) rfl (by kernel_rfl) (by kernel_rfl) (by kernel_rfl) (fun _ _ _ h => h) (Or.inl ⟨by rfl, ?hy30_65⟩) hHeld ?rest30_65
            case hy30_65 => (intro W hSW; (try dsimp only at hSW); go_simp; try with_reducible rfl)
            try simp only [Act.put, List.setIfInBounds_toArray, List.set_cons_zero, List.set_cons_succ]
            refine wpAnyH_take (i := 31) (oi := ⟨some 41, .fieldAddr 24 (.tmp 3) 4, 0, "check.go:258", #[⟨30, .guard⟩], some (30, true)⟩) (v := undef) rfl (by kernel_rfl) (by kernel_rfl) (by kernel_rfl) (fun _ _ _ h => h) (Or.inr ⟨by rfl, rfl⟩) hHeld ?_
            try simp only [Act.put, List.setIfInBounds_toArray, List.set_cons_zero, List.set_cons_succ]
            refine wpAnyH_take (i := 32) (oi := ⟨some 42, .load 22 (.tmp 41), 22, "check.go:258", #[⟨31, .data⟩, ⟨30, .guard⟩], some (30, true)⟩) (v := undef) rfl (by kernel_rfl) (by kernel_rfl) (by kernel_rfl) (fun _ _ _ h => h) (Or.inr ⟨by rfl, rfl⟩) hHeld ?_
            try simp only [Act.put, List.setIfInBounds_toArray, List.set_cons_zero, List.set_cons_succ]
            refine wpAnyH_take (i := 33) (oi := ⟨some 43, .move (.tmp 5), 3, "check.go:258", #[⟨30, .guard⟩], some (30, true)⟩) (v := undef) rfl (by kernel_rfl) (by kernel_rfl) (by kernel_rfl) (fun _ _ _ h => h) (Or.inr ⟨by rfl, rfl⟩) hHeld ?_
            try simp only [Act.put, List.setIfInBounds_toArray, List.set_cons_zero, List.set_cons_succ]
            refine wpAnyH_take (i := 34) (oi := ⟨some 44, .slice 22 (.tmp 42) (some (.tmp 43)) none none, 22, "check.go:258", #[⟨32, .data⟩, ⟨33, .data⟩, ⟨30, .guard⟩], some (30, true)⟩) (v := undef) rfl (by kernel_rfl) (by kernel_rfl) (by kernel_rfl) (fun _ _ _ h => h) (Or.inr ⟨by rfl, rfl⟩) hHeld ?_
            try simp only [Act.put, List.setIfInBounds_toArray, List.set_cons_zero, List.set_cons_succ]
            refine wpAnyH_take (i := 35) (oi := ⟨some 45, .load 51 (.tmp 2), 51, "check.go:258", #[⟨30, .guard⟩], some (30, true)⟩) (v := undef) rfl (by kernel_rfl) (by kernel_rfl) (by kernel_rfl) (fun _ _ _ h => h) (Or.inr ⟨by rfl, rfl⟩) hHeld ?_
            try simp only [Act.put, List.setIfInBounds_toArray, List.set_cons_zero, List.set_cons_succ]
            refine wpAnyH_ready (rs := [36]) (by kernel_rfl) (by simp) ?_
            refine AllReadyH.cons (o := ⟨some 46, .makeFunc (.func 99) #[.tmp 45] #[], 53, "check.go:258", #[⟨35, .data⟩, ⟨30, .guard⟩], some (30, true)⟩) rfl (fun K hK => ?_) AllReadyH.nil
            go_simp
            refine hK.out _ _ hHeld (fun _ => ?_)
            clear hK K
            try simp only [Act.put, List.setIfInBounds_toArray, List.set_cons_zero, List.set_cons_succ]
            refine wpAnyH_ready (rs := [37]) (by kernel_rfl) (by simp) ?_
            refine AllReadyH.cons (o := ⟨some 47, .call { callee := .value (.func 64), args := #[.tmp 44, .tmp 46], argTypes := #[22, 53] }, 4, "check.go:259", #[⟨34, .data⟩, ⟨36, .data⟩, ⟨30, .chain⟩, ⟨30, .guard⟩], some (30, true)⟩) rfl (fun K hK => ?_) AllReadyH.nil
            go_simp
            refine hK.out _ _ hHeld (fun _ => ?_)
            clear hK K
            try simp only [Act.put, List.setIfInBounds_toArray, List.set_cons_zero, List.set_cons_succ]
            refine wpAnyH_take (i := 38) (oi := ⟨some 48, .pick (.tmp 40) (.tmp 47) (.const (.bool false)), 4, "check.go:258", #[⟨30, .data⟩, ⟨37, .data⟩], none⟩) (v := ?v38_66) rfl (by kernel_rfl) (by kernel_rfl) (by kernel_rfl) (fun _ _ _ h => h) (Or.inl ⟨by rfl, ?hy38_66⟩) hHeld ?rest38_66
            case hy38_66 => (intro W hSW; (try dsimp only at hSW); go_simp; try with_reducible rfl)
            try simp only [Act.put, List.setIfInBounds_toArray, List.set_cons_zero, List.set_cons_succ]
            refine wpAnyH_take (i := 39) (oi := ⟨some 4, .assign (.tmp 48), 4, "check.go:258", #[⟨38, .data⟩, ⟨37, .chain⟩, ⟨0, .phase⟩, ⟨1, .phase⟩, ⟨2, .phase⟩, ⟨3, .phase⟩, ⟨4, .phase⟩, ⟨5, .phase⟩, ⟨6, .phase⟩, ⟨7, .phase⟩, ⟨8, .phase⟩, ⟨9, .phase⟩, ⟨10, .phase⟩, ⟨11, .phase⟩, ⟨12, .phase⟩, ⟨13, .phase⟩, ⟨14, .phase⟩, ⟨15, .phase⟩, ⟨16, .phase⟩, ⟨17, .phase⟩, ⟨18, .phase⟩, ⟨19, .phase⟩, ⟨20, .phase⟩, ⟨21, .phase⟩, ⟨22, .phase⟩, ⟨23, .phase⟩, ⟨24, .phase⟩, ⟨25, .phase⟩, ⟨26, .phase⟩, ⟨27, .phase⟩, ⟨28, .phase⟩, ⟨29, .phase⟩, ⟨30, .phase⟩, ⟨31, .phase⟩, ⟨32, .phase⟩, ⟨33, .phase⟩, ⟨34, .phase⟩, ⟨35, .phase⟩, ⟨36, .phase⟩, ⟨37, .phase⟩, ⟨38, .phase⟩], none⟩) (v := ?v39_67) rfl (by kernel_rfl) (by kernel_rfl) (by kernel_rfl) (fun _ _ _ h => h) (Or.inl ⟨by rfl, ?hy39_67⟩) hHeld ?rest39_67
            case hy39_67 => (intro W hSW; (try dsimp only at hSW); go_simp; try with_reducible rfl)
            try simp only [Act.put, List.setIfInBounds_toArray, List.set_cons_zero, List.set_cons_succ]
            refine wpAnyH_done (by kernel_rfl) ?_ _
            have HS := Lib.hid hHeld
            clear hHeld
            go_wp2_with fail
            go_ret
            exact ⟨by rw [HO.out]; simp [*], HS.out.2.2.2.2.2.2.2⟩
          | true =>
            refine wpAnyH_ready (rs := [28]) (by kernel_rfl) (by simp) ?_
            refine AllReadyH.cons (o := ⟨some 38, .call { callee := .value (.func 64), args := #[.tmp 34, .tmp 37], argTypes := #[22, 53] }, 4, "check.go:259", #[⟨24, .data⟩, ⟨27, .data⟩, ⟨26, .chain⟩, ⟨20, .guard⟩], some (20, true)⟩) rfl (fun K hK => ?_) AllReadyH.nil
            go_simp
            go_at_call 64
            refine (A1.out _ hHeld).mono ?_
            rintro e w7 ⟨rfl, s7⟩
            clear hHeld
            have hHeld := s7
            clear s7
            refine hK.out _ _ hHeld (fun _ => ?_)
            clear hK K
            try simp only [Act.put, List.setIfInBounds_toArray, List.set_cons_zero, List.set_cons_succ]
            refine wpAnyH_take (i := 29) (oi := ⟨some 39, .pick (.tmp 30) (.tmp 38) (.const (.bool false)), 4, "check.go:258", #[⟨20, .data⟩, ⟨28, .data⟩], none⟩) (v := ?v29_68) rfl (by kernel_rfl) (by kernel_rfl) (by kernel_rfl) (fun _ _ _ h => h) (Or.inl ⟨by rfl, ?hy29_68⟩) hHeld ?rest29_68
            case hy29_68 => (intro W hSW; (try dsimp only at hSW); go_simp; try with_reducible rfl)
            try simp only [Act.put, List.setIfInBounds_toArray, List.set_cons_zero, List.set_cons_succ]
            refine wpAnyH_take (i := 30) (oi := ⟨some 40, .move (.tmp 39), 4, "check.go:258", #[⟨29, .data⟩, ⟨28, .chain⟩], none⟩) (v := ?v30_69) rfl (by kernel_rfl) (by kernel_rfl) (by kernel_rfl) (fun _ _ _ h => h) (Or.inl ⟨by rfl, ?hy30_69⟩) hHeld ?rest30_69
            case hy30_69 => (intro W hSW; (try dsimp only at hSW); go_simp; try with_reducible rfl)
            try simp only [Act.put, List.setIfInBounds_toArray, List.set_cons_zero, List.set_cons_succ]
            refine wpAnyH_take (i := 31) (oi := ⟨some 41, .fieldAddr 24 (.tmp 3) 4, 0, "check.go:258", #[⟨30, .guard⟩], some (30, true)⟩) (v := ?v31_70) rfl (by kernel_rfl) (by kernel_rfl) (by kernel_rfl) (fun _ _ _ h => h) (Or.inl ⟨by rfl, ?hy31_70⟩) hHeld ?rest31_70
            case hy31_70 => (intro W hSW; (try dsimp only at hSW); go_simp; try with_reducible rfl)
            try simp only [Act.put, List.setIfInBounds_toArray, List.set_cons_zero, List.set_cons_succ]
            refine wpAnyH_take (i := 32) (oi := ⟨some 42, .load 22 (.tmp 41), 22, "check.go:258", #[⟨31, .data⟩, ⟨30, .guard⟩], some (30, true)⟩) (v := ?v32_71) rfl (by kernel_rfl) (by kernel_rfl) (by kernel_rfl) (fun _ _ _ h => h) (Or.inl ⟨by rfl, ?hy32_71⟩) hHeld ?rest32_71
            case hy32_71 => (intro W hSW; (try dsimp only at hSW); go_simp; try with_reducible rfl)
            try simp only [Act.put, List.setIfInBounds_toArray, List.set_cons_zero, List.set_cons_succ]
            refine wpAnyH_take (i := 33) (oi := ⟨some 43, .move (.tmp 5), 3, "check.go:258", #[⟨30, .guard⟩], some (30, true)⟩) (v := ?v33_72) rfl (by kernel_rfl) (by kernel_rfl) (by kernel_rfl) (fun _ _ _ h => h) (Or.inl ⟨by rfl, ?hy33_72⟩) hHeld ?rest33_72
            case hy33_72 => (intro W hSW; (try dsimp only at hSW); go_simp; try with_reducible rfl)
            try simp only [Act.put, List.setIfInBounds_toArray, List.set_cons_zero, List.set_cons_succ]
            refine wpAnyH_take (i := 34) (oi := ⟨some 44, .slice 22 (.tmp 42) (some (.tmp 43)) none none, 22, "check.go:258", #[⟨32, .data⟩, ⟨33, .data⟩, ⟨30, .guard⟩], some (30, true)⟩) (v := .slice a2 (l.length - u) (lc - u)) rfl (by kernel_rfl) (by kernel_rfl) (by kernel_rfl) (fun _ _ _ h => h) (Or.inl ⟨by rfl, ?hy34_73⟩) hHeld ?rest34_73
            case hy34_73 => (intro W hSW; exact run_sliceL rfl rfl rfl hu0 hu2 E2.out W)
            try simp only [Act.put, List.setIfInBounds_toArray, List.set_cons_zero, List.set_cons_succ]
            refine wpAnyH_take (i := 35) (oi := ⟨some 45, .load 51 (.tmp 2), 51, "check.go:258", #[⟨30, .guard⟩], some (30, true)⟩) (v := ?v35_74) rfl (by kernel_rfl) (by kernel_rfl) (by kernel_rfl) (fun _ _ _ h => h) (Or.inl ⟨by rfl, ?hy35_74⟩) hHeld ?rest35_74
            case hy35_74 => (intro W hSW; (try dsimp only at hSW); go_simp; try with_reducible rfl)
            try simp only [Act.put, List.setIfInBounds_toArray, List.set_cons_zero, List.set_cons_succ]
            refine wpAnyH_ready (rs := [36]) (by kernel_rfl) (by simp) ?_
            refine AllReadyH.cons (o := ⟨some 46, .makeFunc (.func 99) #[.tmp 45] #[], 53, "check.go:258", #[⟨35, .data⟩, ⟨30, .guard⟩], some (30, true)⟩) rfl (fun K hK => ?_) AllReadyH.nil
            go_simp
            refine hK.out _ _ hHeld (fun _ => ?_)
            clear hK K
            try simp only [Act.put, List.setIfInBounds_toArray, List.set_cons_zero, List.set_cons_succ]
            refine wpAnyH_ready (rs := [37]) (by kernel_rfl) (by simp) ?_
            refine AllReadyH.cons (o := ⟨some 47, .call { callee := .value (.func 64), args := #[.tmp 44, .tmp 46], argTypes := #[22, 53] }, 4, "check.go:259", #[⟨34, .data⟩, ⟨36, .data⟩, ⟨30, .chain⟩, ⟨30, .guard⟩], some (30, true)⟩) rfl (fun K hK => ?_) AllReadyH.nil
            go_simp
            go_at_call 64
            refine (A2.out _ hHeld).mono ?_
            rintro e w7 ⟨rfl, s7⟩
            clear hHeld
            have hHeld := s7
            clear s7
            refine hK.out _ _ hHeld (fun _ => ?_)
            clear hK K
            try simp only [Act.put, List.setIfInBounds_toArray, List.set_cons_zero, List.set_cons_succ]
            refine wpAnyH_take (i := 38) (oi := ⟨some 48, .pick (.tmp 40) (.tmp 47) (.const (.bool false)), 4, "check.go:258", #[⟨30, .data⟩, ⟨37, .data⟩], none⟩) (v := ?v38_75) rfl (by kernel_rfl) (by kernel_rfl) (by kernel_rfl) (fun _ _ _ h => h) (Or.inl ⟨by rfl, ?hy38_75⟩) hHeld ?rest38_75
            case hy38_75 => (intro W hSW; (try dsimp only at hSW); go_simp; try with_reducible rfl)
            try simp only [Act.put, List.setIfInBounds_toArray, List.set_cons_zero, List.set_cons_succ]
            refine wpAnyH_take (i := 39) (oi := ⟨some 4, .assign (.tmp 48), 4, "check.go:258", #[⟨38, .data⟩, ⟨37, .chain⟩, ⟨0, .phase⟩, ⟨1, .phase⟩, ⟨2, .phase⟩, ⟨3, .phase⟩, ⟨4, .phase⟩, ⟨5, .phase⟩, ⟨6, .phase⟩, ⟨7, .phase⟩, ⟨8, .phase⟩, ⟨9, .phase⟩, ⟨10, .phase⟩, ⟨11, .phase⟩, ⟨12, .phase⟩, ⟨13, .phase⟩, ⟨14, .phase⟩, ⟨15, .phase⟩, ⟨16, .phase⟩, ⟨17, .phase⟩, ⟨18, .phase⟩, ⟨19, .phase⟩, ⟨20, .phase⟩, ⟨21, .phase⟩, ⟨22, .phase⟩, ⟨23, .phase⟩, ⟨24, .phase⟩, ⟨25, .phase⟩, ⟨26, .phase⟩, ⟨27, .phase⟩, ⟨28, .phase⟩, ⟨29, .phase⟩, ⟨30, .phase⟩, ⟨31, .phase⟩, ⟨32, .phase⟩, ⟨33, .phase⟩, ⟨34, .phase⟩, ⟨35, .phase⟩, ⟨36, .phase⟩, ⟨37, .phase⟩, ⟨38, .phase⟩], none⟩) (v := ?v39_76) rfl (by kernel_rfl) (by kernel_rfl) (by kernel_rfl) (fun _ _ _ h => h) (Or.inl ⟨by rfl, ?hy39_76⟩) hHeld ?rest39_76
            case hy39_76 => (intro W hSW; (try dsimp only at hSW); go_simp; try with_reducible rfl)
            try simp only [Act.put, List.setIfInBounds_toArray, List.set_cons_zero, List.set_cons_succ]
            refine wpAnyH_done (by kernel_rfl) ?_ _
            have HS := Lib.hid hHeld
            clear hHeld
            go_wp2_with fail
            go_ret
            exact ⟨by rw [HO.out]; simp [*], HS.out.2.2.2.2.2.2.2⟩
end Go.Proofs.YtciijpahjjoppaaGreat
end
section
namespace Go.Proofs.YtciijpahjjoppaaGreat
open Go.RowKit Go.Deep Go.Maps

set_option maxRecDepth 100000 in
set_option maxHeartbeats 2000000 in
theorem expr_deep (d op n : Int) (nm fd : ByteArray) (kla : Option Addr) (len klc : Nat) (w : World) :
    Calls Tryz.prog 25 #[.agg #[.int .i64 d, .int .i64 48], .agg #[.int .i64 op, .int .i64 n, .string nm, .string fd, .slice kla len klc]] w fun e w' => e = .returned (.bool false) ∧ Below w.heap.size w w' := by
  have R0 := Lib.hid ((((Below.refl w.heap.size w).alloc (Nat.le_refl _) (.cells #[.int .i64 d, .int .i64 48] 51)).alloc (by simp) (.cells #[.int .i64 op, .int .i64 n, .string nm, .string fd, .slice kla len klc] 24)).alloc (by simp; omega) (.cells #[.int .i64 d, .int .i64 48] 51))
  go_enter Tryz.func25, Tryz.ntmps25
  go_wp2_with fail
  refine (tooDeep_any d 48 _).mono ?_
  rintro e w1 ⟨rfl, rfl⟩
  rw [show decide ((48 : Int) ≤ 48) = true from rfl]
  go_wp2_with fail
  go_ret
  exact ⟨rfl, R0.out⟩
set_option maxRecDepth 100000 in
set_option maxHeartbeats 2000000 in
theorem expr_call (w0 : World) (d : Int) (ar k : Nat) (hk : ar + (k + 1) = 48) (n : Int) (nm fd : ByteArray) (kla : Option Addr) (kl : List (List D)) (klc : Nat) (hnm : nm.size ≤ maxLen) (hA : At w0 (.slice kla kl.length klc) (.row kl)) (hs : ∀ x ∈ kl, ShE x)
    (hf : OkFn w0 25 (.agg #[.int .i64 d, .int .i64 ((ar + 1 : Nat) : Int)]) kl (okE d k)) (w : World) (hW : Below w0.heap.size w0 w) :
    Calls Tryz.prog 25 #[.agg #[.int .i64 d, .int .i64 ar], .agg #[.int .i64 7, .int .i64 n, .string nm, .string fd, .slice kla kl.length klc]] w fun e w' => e = .returned (.bool (callE d n nm fd kl (okE d k))) ∧ Below w.heap.size w w' := by
  have hdp : decide ((48 : Int) ≤ (ar : Int)) = false := by simp; omega
  have HC := Lib.hid (fun (W : World) (hW : Below w0.heap.size w0 W) => call_form w0 d ar k hk 7 n nm fd kla kl klc hnm hA hs hf W hW)
  have HW := Lib.hid hW
  have R0 := Lib.hid (((Below.refl w.heap.size w).alloc (Nat.le_refl _) (.cells #[.int .i64 d, .int .i64 ar] 51)).alloc (by simp) (.cells #[.int .i64 7, .int .i64 n, .string nm, .string fd, .slice kla kl.length klc] 24))
  have KP := Lib.hid (box_first w (.cells #[.int .i64 d, .int .i64 ar] 51) (.cells #[.int .i64 7, .int .i64 n, .string nm, .string fd, .slice kla kl.length klc] 24))
  have KQ := Lib.hid (box_second w (.cells #[.int .i64 d, .int .i64 ar] 51) (.cells #[.int .i64 7, .int .i64 n, .string nm, .string fd, .slice kla kl.length klc] 24))
  clear hA hs hf hW hk
  go_enter Tryz.func25, Tryz.ntmps25
  go_wp2_with fail
  refine (tooDeep_any d ar _).mono ?_
  rintro e w1 ⟨rfl, hw1⟩
  have b1 := (Below.refl _ ((w.alloc (.cells #[.int .i64 d, .int .i64 ar] 51)).alloc (.cells #[.int .i64 7, .int .i64 n, .string nm, .string fd, .slice kla kl.length klc] 24))).alloc (Nat.le_refl _) (.cells #[.int .i64 d, .int .i64 ar] 51)
  rw [← hw1] at b1
  clear hw1
  have R1 := Lib.hid (R0.out.trans (b1.mono R0.out.size))
  have cP1 := box_cells ((b1.block _ (heap_lt KP.out)).trans KP.out)
  have cQ1 := box_cells ((b1.block _ (heap_lt KQ.out)).trans KQ.out)
  rw [hdp]
  clear b1
  go_wp2_with fail
  refine (HC.out _ (HW.out.trans (R1.out.mono HW.out.size))).mono ?_
  rintro e w2 ⟨rfl, b2⟩
  have R2 := Lib.hid (R1.out.trans (b2.mono R1.out.size))
  clear b2 cP1 cQ1
  generalize hr : callE d n nm fd kl (okE d k) = r
  go_wp2_with fail
  go_ret
  exact ⟨by rw [hr]; rfl, R2.out⟩
theorem expr_any (w0 : World) (d : Int) : ∀ (k ar : Nat), ar + k = 48 → ∀ (x : List D) (vs : List Value), ShE x → AllAt w0 vs x → ∀ W, Below w0.heap.size w0 W →
    Calls Tryz.prog 25 #[.agg #[.int .i64 d, .int .i64 ar], .agg ⟨vs⟩] W fun e W' => e = .returned (.bool (okE d k x)) ∧ Below W.heap.size W W'
  | 0, ar, hk, x, vs, hx, hv, W, hW => by
    obtain ⟨op, n, nm, fd, kl, kla, klc, rfl, rfl, _⟩ := hv.openE hx
    obtain rfl : ar = 48 := by omega
    exact expr_deep d op n nm fd kla kl.length klc W
  | k + 1, ar, hk, x, vs, hx, hv, W, hW => by
    obtain ⟨op, n, nm, fd, kl, kla, klc, rfl, rfl, _, _, hnm, hfd, akl, skl⟩ := hv.openE hx
    have hf : OkFn w0 25 (.agg #[.int .i64 d, .int .i64 ((ar + 1 : Nat) : Int)]) kl (okE d k) := fun y hy us hu U hU => expr_any w0 d k (ar + 1) (by omega) y us (skl y hy) hu U hU
    cases hop : op == 7 with
    | true =>
      obtain rfl : op = 7 := by simpa using hop
      exact expr_call w0 d ar k (by omega) n nm fd kla kl klc hnm akl skl hf W hW
    | false =>
      rw [show okE d (k + 1) [.int op, .int n, .str nm, .str fd, .row kl] = formE d op n nm fd kl (okE d k) by simp [okE, hop]]
      exact expr_form w0 d ar k (by omega) op n nm fd kla kl klc hop hnm hfd akl skl hf W hW
end Go.Proofs.YtciijpahjjoppaaGreat
end
section
namespace Go.Proofs.YtciijpahjjoppaaGreat
open Go.RowKit Go.Deep Go.Maps

def codeOf (b : Bool) : Int := if b then 0 else 1
def chkE (d : Int) (x : List D) : Bool := knows d && okE d 48 x
set_option maxRecDepth 100000 in
set_option maxHeartbeats 2000000 in
theorem checkExpr_any (w0 : World) (d : Int) (x : List D) (vs : List Value) (hx : ShE x) (hv : AllAt w0 vs x) (w : World) (hW : Below w0.heap.size w0 w) :
    Calls Tryz.prog 9 #[.int .i64 d, .agg ⟨vs⟩] w fun e w' => e = .returned (.int .i64 (codeOf (chkE d x))) ∧ Below w.heap.size w w' := by
  have HE := Lib.hid (fun (W : World) (hW : Below w0.heap.size w0 W) => expr_any w0 d 48 0 rfl x vs hx hv W hW)
  obtain ⟨op, n, nm, fd, kl, kla, klc, hxe, rfl, _⟩ := hv.openE hx
  have HW := Lib.hid hW
  have HX := Lib.hid hxe
  clear hW hv hx hxe
  have R0 := Lib.hid (((Below.refl w.heap.size w).alloc (Nat.le_refl _) (.cells #[.int .i64 op, .int .i64 n, .string nm, .string fd, .slice kla kl.length klc] 24)).alloc (by simp) (.cells #[.int .i64 d, .int .i64 0] 51))
  have KQ := Lib.hid (box_first w (.cells #[.int .i64 op, .int .i64 n, .string nm, .string fd, .slice kla kl.length klc] 24) (.cells #[.int .i64 d, .int .i64 0] 51))
  have KP := Lib.hid (box_second w (.cells #[.int .i64 op, .int .i64 n, .string nm, .string fd, .slice kla kl.length klc] 24) (.cells #[.int .i64 d, .int .i64 0] 51))
  go_enter Tryz.func9, Tryz.ntmps9
  go_wp2_with fail
  refine (knows_any d 0 _).mono ?_
  rintro e w1 ⟨rfl, hw1⟩
  have b1 := (Below.refl _ ((w.alloc (.cells #[.int .i64 op, .int .i64 n, .string nm, .string fd, .slice kla kl.length klc] 24)).alloc (.cells #[.int .i64 d, .int .i64 0] 51))).alloc (Nat.le_refl _) (.cells #[.int .i64 d, .int .i64 0] 51)
  rw [← hw1] at b1
  clear hw1
  have R1 := Lib.hid (R0.out.trans (b1.mono R0.out.size))
  have cP1 := box_cells ((b1.block _ (heap_lt KP.out)).trans KP.out)
  have cQ1 := box_cells ((b1.block _ (heap_lt KQ.out)).trans KQ.out)
  clear b1
  cases hkn : knows d with
  | false =>
    have HO := Lib.hid (show chkE d x = false by unfold chkE; rw [hkn]; rfl)
    go_wp2_with fail
    refine (told_no _).mono ?_
    rintro e w2 ⟨rfl, rfl⟩
    go_wp2_with fail
    go_ret
    exact ⟨by rw [HO.out]; rfl, R1.out⟩
  | true =>
    have HO := Lib.hid (show chkE d x = okE d 48 x by unfold chkE; rw [hkn]; rfl)
    go_wp2_with fail
    refine (HE.out _ (HW.out.trans (R1.out.mono HW.out.size))).mono ?_
    rintro e w2 ⟨rfl, b2⟩
    have R2 := Lib.hid (R1.out.trans (b2.mono R1.out.size))
    clear b2 cP1 cQ1
    cases hr : okE d 48 x with
    | false =>
      go_wp2_with fail
      refine (told_no _).mono ?_
      rintro e w2 ⟨rfl, rfl⟩
      go_wp2_with fail
      go_ret
      exact ⟨by rw [HO.out, hr]; rfl, R2.out⟩
    | true =>
      go_wp2_with fail
      refine (told_yes _).mono ?_
      rintro e w2 ⟨rfl, rfl⟩
      go_wp2_with fail
      go_ret
      exact ⟨by rw [HO.out, hr]; rfl, R2.out⟩
end Go.Proofs.YtciijpahjjoppaaGreat
end
section
namespace Go.Proofs.YtciijpahjjoppaaGreat
open Go.RowKit Go.Deep Go.Maps

set_option maxRecDepth 100000 in
set_option maxHeartbeats 1000000 in
theorem refName_any (d : Int) (s : ByteArray) (w : World) (hs : s.size ≤ maxLen) : Calls Tryz.prog 29 #[.int .i64 d, .string s] w fun e w' => e = .returned (.bool (okName d s)) ∧ Below w.heap.size w w' := by
  have HC := Lib.hid (refCheck_any s w hs)
  by_cases h0 : chk s = 0
  · have HO := Lib.hid (show okName d s = !isIn s (wordsOf d) by unfold okName; rw [h0]; simp)
    go_enter Tryz.func29, Tryz.ntmps29
    go_wp2_with fail
    refine HC.out.mono ?_
    rw [h0]
    rintro e w' ⟨rfl, rfl⟩
    go_wp2_with fail
    refine (refIs_any d s _).mono ?_
    rintro e w1 ⟨rfl, b1⟩
    have B1 := Lib.hid b1
    clear b1
    generalize hr : isIn s (wordsOf d) = r
    rw [hr] at HO
    go_wp2_with fail
    go_ret
    exact ⟨by rw [HO.out]; rfl, B1.out⟩
  · have HO := Lib.hid (show okName d s = false by unfold okName; simp [h0])
    have h1 : (((chk s : Nat) : Int) == 0) = false := by simpa using h0
    go_enter Tryz.func29, Tryz.ntmps29
    go_wp2_with fail
    refine HC.out.mono ?_
    rintro e w' ⟨rfl, rfl⟩
    go_wp2_with fail
    go_ret
    exact ⟨by rw [HO.out]; rfl, Below.refl _ _⟩
end Go.Proofs.YtciijpahjjoppaaGreat
end
section
namespace Go.Proofs.YtciijpahjjoppaaGreat
open Go.RowKit Go.Maps

theorem OwnS.mono {b b' : Nat} {w : World} {v : Value} {ss : List ByteArray} (h : OwnS b w v ss) (hb : b' ≤ b) : OwnS b' w v ss := by
  refine ⟨h.1, ?_⟩
  rcases h.2 with h4 | ⟨g, cap, cur, hv, hb', r⟩
  · exact .inl h4
  · exact .inr ⟨g, cap, cur, hv, Nat.le_trans hb hb', r⟩
theorem run_appS {base : Nat} {w : World} {v : Value} {ss : List ByteArray} (ty : TypeId) (h : OwnS base w v ss) (hbase : base ≤ w.heap.size) {a : Option Addr} {len cap : Nat} {ls : List ByteArray} (hl : IsStrs w a len cap ls) (hb : ss.length + len ≤ 4000000) :
    ∃ v' w', (Builtin.append_ #[29, 29] ty #[v, .slice a len cap]).run Tryz.prog w = .ok v' w' ∧ OwnS base w' v' (ss ++ ls) ∧ w.grownBy w' v.ownBlock := by
  obtain ⟨i, hi, hz0, hz1, hz2⟩ := info_parts info9
  have go : ∀ ad : Addr, a = some ad → (∀ (j : Nat) u, (ls.map Value.string)[j]? = some u → w.cell? (ad.add j) = some u) → ∃ v' w', (Builtin.append_ #[29, 29] ty #[v, .slice a len cap]).run Tryz.prog w = .ok v' w' ∧ OwnS base w' v' (ss ++ ls) ∧ w.grownBy w' v.ownBlock := by
    intro ad e hn
    subst e
    obtain ⟨v', w', h1, h2, h3, _, h5⟩ := run_append_own_at (P := Tryz.prog) w base 29 ty 9 i (.string ⟨#[]⟩) 1 16 Tryz.underlying29 hi hz0 hz1 hz2 rfl (by decide) v ss.length (ss.map Value.string) h ad len cap (ls.map Value.string) (by rw [List.length_map, hl.1]; omega) hn (by simp [Value.oneCell']) (by unfold maxLen; omega) (by omega) hbase
    refine ⟨v', w', h1, ?_, h3⟩
    unfold OwnS
    rw [List.length_append, hl.1, List.map_append]
    exact h2
  cases a with
  | none =>
    have h0 : len = 0 := by
      rcases hl.2.2.2.2 with h0 | ⟨b, o, e, _⟩
      · exact h0
      · cases e
    subst h0
    have : ls = [] := List.eq_nil_of_length_eq_zero hl.1
    subst this
    refine ⟨v, w, ?_, by rw [List.append_nil]; exact h, ⟨rfl, rfl, rfl, Nat.le_refl _, fun _ _ _ => rfl⟩⟩
    rcases h.2 with ⟨rfl, _⟩ | ⟨g, c, cur, rfl, _, _, hnc, _⟩
    · simp [Builtin.append_, run_underlying Tryz.underlying29, sizeOf, typeInfo, hi, Builtin.lenOf, Builtin.firstCells]
    · simp [Builtin.append_, run_underlying Tryz.underlying29, sizeOf, typeInfo, hi, Builtin.lenOf, Builtin.firstCells, hnc, storeCells]
  | some ad =>
    refine go ad rfl ?_
    intro j u hu
    rcases hl.2.2.2.2 with h0 | ⟨b, o, e, _, hc⟩
    · have : ls = [] := List.eq_nil_of_length_eq_zero (hl.1.trans h0)
      subst this
      simp at hu
    · cases e
      rw [Addr.add_mid]
      rw [List.getElem?_map] at hu
      cases hj : ls[j]? with
      | none => rw [hj] at hu; simp at hu
      | some z => rw [hj] at hu; simp at hu; rw [← hu]; exact hc j z hj
theorem wp_appS {ops : Array Oper} {rest : List Oper} {o : Oper} {a : Act} {Q : Exit → Act → World → Prop} (hgd : o.guard = none) (sl x : Operand)
    (ho : o.op = .call { callee := .builtin .append, args := #[sl, x], argTypes := #[29, 29] })
    {base : Nat} {w : World} {v : Value} {ss : List ByteArray} (h : OwnS base w v ss) (hbase : base ≤ w.heap.size) {ad : Option Addr} {len cap : Nat} {ls : List ByteArray} (hl : IsStrs w ad len cap ls) (hs : a.eval sl = v) (hx : a.eval x = .slice ad len cap) (hb : ss.length + len ≤ 4000000)
    (hk : ∀ v' w', OwnS base w' v' (ss ++ ls) → w.grownBy w' v.ownBlock → wpList Tryz.prog ops Q rest (a.put o.dst v') w') :
    wpList Tryz.prog ops Q (o :: rest) a w := by
  refine wpList_plain hgd fun K hK => ?_
  obtain ⟨v', w', hr, h2, h3⟩ := run_appS o.type h hbase hl hb
  unfold Oper.wp execOp
  simp only [ho, resolve, invoke, builtin, Sem.run_bind, Sem.run_pure, Result.andThen_ok, List.map_toArray, List.map_cons, List.map_nil, hs, hx, hr]
  exact hK _ _ (hk v' w' h2 h3)

theorem splitD_at : ∀ (k : Nat) (l : List UInt8), l[k]? = some 36 → (∀ j, j < k → l[j]? ≠ some 36) → splitD l = l.take k :: splitD (l.drop (k + 1))
  | _, [], h, _ => by simp at h
  | 0, c :: r, h, _ => by
    obtain rfl : c = 36 := by simpa using h
    simp [splitD]
  | k + 1, c :: r, h, hn => by
    have hc : c ≠ 36 := fun e => hn 0 (by omega) (by simp [e])
    have ih := splitD_at k r (by simpa using h) (fun j hj => by simpa using hn (j + 1) (by omega))
    rw [splitD, if_neg hc, ih]
    simp
theorem splitD_none : ∀ (l : List UInt8), (∀ j : Nat, l[j]? ≠ some 36) → splitD l = [l]
  | [], _ => rfl
  | c :: r, hn => by
    have hc : c ≠ 36 := fun e => hn 0 (by simp [e])
    rw [splitD, if_neg hc, splitD_none r (fun j => by simpa using hn (j + 1))]
end Go.Proofs.YtciijpahjjoppaaGreat
end
section
namespace Go.Proofs.YtciijpahjjoppaaGreat
open Go.RowKit Go.Maps

theorem ext_ba (s : ByteArray) (a b : Nat) : s.extract a b = ba ((s.data.toList.drop a).take (b - a)) := by
  have h : (s.extract a b).data.toList = (s.data.toList.drop a).take (b - a) := by
    simp [ByteArray.data_extract, Array.toList_extract, List.extract]
  rw [← h, ba_data]
theorem bt_get (s : ByteArray) (j : Nat) (h : j < s.size) : s.data.toList[j]? = some (bt s j) := by
  unfold bt
  have h' : j < s.data.toList.length := by simpa using h
  rw [List.getD_eq_getElem?_getD, List.getElem?_eq_getElem h']
  rfl
theorem parts_cut (s : ByteArray) (f k : Nat) (hf : f ≤ k) (hk : k < s.size) (h : bt s k = 36) (hn : ∀ j, f ≤ j → j < k → bt s j ≠ 36) :
    (splitD (s.data.toList.drop f)).map ba = s.extract f k :: (splitD (s.data.toList.drop (k + 1))).map ba := by
  rw [splitD_at (k - f) (s.data.toList.drop f) (by rw [List.getElem?_drop, show f + (k - f) = k by omega, bt_get s k hk, h]) (fun j hj => by
    rw [List.getElem?_drop, bt_get s (f + j) (by omega)]
    intro e
    exact hn (f + j) (by omega) (by omega) (by simpa using e)), List.map_cons, ext_ba, List.drop_drop, show f + (k - f + 1) = k + 1 by omega]
theorem parts_last (s : ByteArray) (f : Nat) (hn : ∀ j, f ≤ j → j < s.size → bt s j ≠ 36) :
    (splitD (s.data.toList.drop f)).map ba = [s.extract f s.size] := by
  rw [splitD_none (s.data.toList.drop f) (fun j => by
    rw [List.getElem?_drop]
    by_cases hj : f + j < s.size
    · rw [bt_get s (f + j) hj]
      intro e
      exact hn (f + j) (by omega) hj (by simpa using e)
    · rw [List.getElem?_eq_none (by simp; omega)]
      simp), List.map_cons, List.map_nil, ext_ba, List.take_of_length_le (by simp)]
def PtI (s : ByteArray) (pre : List ByteArray) (f k : Nat) : Prop :=
  (k ≤ s.size ∧ f ≤ k ∧ (∀ j, f ≤ j → j < k → bt s j ≠ 36) ∧ parts s = pre ++ (splitD (s.data.toList.drop f)).map ba) ∨ (k = s.size + 1 ∧ pre = parts s)
theorem PtI.len {s : ByteArray} {pre : List ByteArray} {f k : Nat} (h : PtI s pre f k) : pre.length ≤ s.size + 1 := by
  have := parts_len s
  rcases h with ⟨_, _, _, e⟩ | ⟨_, rfl⟩
  · rw [e, List.length_append] at this; omega
  · exact this
set_option maxRecDepth 100000 in
set_option maxHeartbeats 2000000 in
theorem refParts_any (s : ByteArray) (w : World) (hs : s.size ≤ 2000000) : Calls Tryz.prog 52 #[.string s] w fun e w' => ∃ v, e = .returned v ∧ OwnS w.heap.size w' v (parts s) ∧ Below w.heap.size w w' := by
  have hmx : s.size ≤ maxLen := by unfold maxLen; omega
  go_enter Tryz.func52, Tryz.ntmps52
  go_wp2_with fail
  go_loopw [3, 4, 5] (fun v fv iv wr => ∃ (pre : List ByteArray) (f k : Nat), fv = .int .i64 f ∧ iv = .int .i64 k ∧ f ≤ s.size + 1 ∧ k ≤ s.size + 1 ∧ PtI s pre f k ∧ OwnS w.heap.size wr v pre ∧ Below w.heap.size w wr) (fun _ _ i _ => s.size + 2 - (intOf i).toNat)
  case atStart => exact ⟨[], 0, 0, rfl, rfl, by omega, by omega, .inl ⟨Nat.zero_le _, Nat.le_refl _, fun j _ hj => by omega, by simp [parts]⟩, OwnS.nil _ _, Below.refl _ _⟩
  case round =>
    obtain ⟨pre, f, k, rfl, rfl, hf, hk, hI, hO, hB⟩ := hrel
    have hpl := hI.len
    have HR2 := Lib.hid hO
    have HB2 := Lib.hid hB
    clear hO hB
    rcases hI with ⟨hk1, hfk, hn, he⟩ | ⟨hk1, he⟩
    · have HN := Lib.hid hn
      have HE := Lib.hid he
      clear hn he
      have HB3 := Lib.hid (HB2.out.alloc HB2.out.size (.cells (([s.extract f k] : List ByteArray).map Value.string).toArray 9))
      have HR3 := Lib.hid (HR2.out.below ((Below.refl wr.heap.size wr).alloc (Nat.le_refl _) (.cells (([s.extract f k] : List ByteArray).map Value.string).toArray 9)))
      have HLs := Lib.hid (lit_strs wr [s.extract f k] (by simp [maxLen]) (by
        intro z hz
        obtain rfl : z = s.extract f k := by simpa using hz
        simp [ByteArray.size_extract]
        omega))
      have hsz := HB2.out.size
      by_cases hlt : k < s.size
      · by_cases hd : bt s k = 36
        · have hq : (((s[k]).toNat : Int) == 36) = true := by rw [bt_eq s k hlt, hd]; rfl
          have HP := Lib.hid (show PtI s (pre ++ [s.extract f k]) (k + 1) (k + 1) from .inl ⟨by omega, Nat.le_refl _, fun j h1 h2 => by omega, by rw [HE.out, parts_cut s f k hfk hlt hd HN.out]; simp⟩)
          clear hd
          go_wp2_with (first
          | (at_builtin
             refine wp_appS rfl (.tmp 22) (.tmp 27) rfl HR3.out (by simp; omega) HLs.out rfl rfl (by simp; omega) ?_
             intro v' w7 hown7 hgrow7
             have HR7 := Lib.hid hown7
             have HB7 := Lib.hid (HB3.out.grown hgrow7 (by simp; omega) (fun j hj => (HR3.out.lt j hj).1))
             clear hown7 hgrow7)
          | go_in)
          go_roundw
          case rel => exact ⟨pre ++ [s.extract f k], k + 1, k + 1, by go_num, by go_num, by omega, by omega, HP.out, HR7.out, HB7.out⟩
          case measure => simp [intOf]; omega
        · have hq : (((s[k]).toNat : Int) == 36) = false := by
            rw [bt_eq s k hlt]
            simp only [beq_eq_false_iff_ne, ne_eq]
            intro e
            exact hd (UInt8.toNat_inj.1 (by simp; omega))
          have HP := Lib.hid (show PtI s pre f (k + 1) from .inl ⟨by omega, by omega, fun j h1 h2 => by
            by_cases hj : j = k
            · rw [hj]; exact hd
            · exact HN.out j h1 (by omega), HE.out⟩)
          clear hd
          go_wp2_with fail
          go_roundw
          case rel => exact ⟨pre, f, k + 1, rfl, by go_num, by omega, by omega, HP.out, HR2.out, HB2.out⟩
          case measure => simp [intOf]; omega
      · obtain rfl : k = s.size := by omega
        have HP := Lib.hid (show PtI s (pre ++ [s.extract f s.size]) (s.size + 1) (s.size + 1) from .inr ⟨rfl, by rw [HE.out, parts_last s f HN.out]⟩)
        go_wp2_with (first
        | (at_builtin
           refine wp_appS rfl (.tmp 22) (.tmp 27) rfl HR3.out (by simp; omega) HLs.out rfl rfl (by simp; omega) ?_
           intro v' w7 hown7 hgrow7
           have HR7 := Lib.hid hown7
           have HB7 := Lib.hid (HB3.out.grown hgrow7 (by simp; omega) (fun j hj => (HR3.out.lt j hj).1))
           clear hown7 hgrow7)
        | go_in)
        go_roundw
        case rel => exact ⟨pre ++ [s.extract f s.size], s.size + 1, s.size + 1, by go_num, by go_num, by omega, by omega, HP.out, HR7.out, HB7.out⟩
        case measure => simp [intOf] <;> omega
    · subst hk1
      have HE := Lib.hid he
      clear he
      go_wp2_with fail
      go_ret
      exact ⟨_, rfl, by rw [← HE.out]; exact HR2.out, HB2.out⟩
end Go.Proofs.YtciijpahjjoppaaGreat
end
section
namespace Go.Proofs.YtciijpahjjoppaaGreat
open Go.RowKit Go.Maps

theorem allB_take_succ {l : List ByteArray} {f : ByteArray → Bool} {k : Nat} {x : ByteArray} (hx : l[k]? = some x) (h : (l.take k).all f = true) (hf : f x = true) : (l.take (k + 1)).all f = true := by
  rw [List.take_add_one, hx, List.all_append, h]
  simpa using hf
theorem allB_bad {l : List ByteArray} {f : ByteArray → Bool} {k : Nat} {x : ByteArray} (hx : l[k]? = some x) (h : f x = false) : l.all f = false := by
  rw [List.all_eq_false]
  exact ⟨x, List.mem_of_getElem? hx, by simp [h]⟩
set_option maxRecDepth 100000 in
set_option maxHeartbeats 2000000 in
theorem refRoutine_0 (s : ByteArray) (w : World) (hs : s.size ≤ 2000000) : Calls Tryz.prog 66 #[.int .i64 0, .string s] w fun e w' => e = .returned (.bool (okR 0 s)) ∧ Below w.heap.size w w' := by
  have HO := Lib.hid (show okR 0 s = okName 0 s from rfl)
  go_enter Tryz.func66, Tryz.ntmps66
  go_wp2_with fail
  refine (refName_any 0 s _ (by unfold maxLen; omega)).mono ?_
  rintro e w1 ⟨rfl, b1⟩
  have B1 := Lib.hid b1
  clear b1
  generalize hr : okName 0 s = r
  rw [hr] at HO
  go_wp2_with fail
  go_ret
  exact ⟨by rw [HO.out]; rfl, B1.out⟩
set_option maxRecDepth 100000 in
set_option maxHeartbeats 2000000 in
theorem refRoutine_1 (s : ByteArray) (w : World) (hs : s.size ≤ 2000000) : Calls Tryz.prog 66 #[.int .i64 1, .string s] w fun e w' => e = .returned (.bool (okR 1 s)) ∧ Below w.heap.size w w' := by
  have HO := Lib.hid (show okR 1 s = (parts s).all (okName 1) from rfl)
  have hall : ∀ x ∈ parts s, x.size ≤ maxLen := fun x hx => by have := parts_mem s x hx; unfold maxLen; omega
  have hpl := parts_len s
  go_enter Tryz.func66, Tryz.ntmps66
  go_wp2_with fail
  refine (refParts_any s _ hs).mono ?_
  rintro e w1 ⟨v, rfl, ho, b1⟩
  obtain ⟨a, cap, rfl, hS⟩ := ho.strs hall
  generalize hl : parts s = l at *
  have HS := Lib.hid hS
  have B1 := Lib.hid b1
  clear ho b1 hS hl
  go_wp2_with fail
  go_loopw [6] (fun i wr => ∃ k : Nat, k ≤ l.length ∧ i = .int .i64 k ∧ (l.take k).all (okName 1) = true ∧ Below w1.heap.size w1 wr) (fun i _ => l.length - (intOf i).toNat)
  case atStart => exact ⟨0, Nat.zero_le _, rfl, rfl, Below.refl _ _⟩
  case round =>
    obtain ⟨k, hk, rfl, ht, hb⟩ := hrel
    have HT := Lib.hid ht
    have HB := Lib.hid hb
    clear ht hb
    by_cases hlt : k < l.length
    · obtain ⟨b, o, x, rfl, hx, hc⟩ := (HS.out.below HB.out).at hlt
      have HX := Lib.hid hx
      have hxm := hall x (List.mem_of_getElem? hx)
      clear hx
      go_wp2_with fail
      refine (refName_any 1 x _ hxm).mono ?_
      rintro e w3 ⟨rfl, b3⟩
      have HB4 := Lib.hid (HB.out.trans (b3.mono HB.out.size))
      clear b3
      cases hn : okName 1 x with
      | true =>
        have HE := Lib.hid (allB_take_succ HX.out HT.out hn)
        clear hn
        go_wp2_with fail
        go_roundw
        case rel => exact ⟨k + 1, by omega, by go_num, HE.out, HB4.out⟩
        case measure => simp [intOf]; omega
      | false =>
        have HE := Lib.hid (allB_bad HX.out hn)
        clear hn
        go_wp2_with fail
        go_ret
        exact ⟨by rw [HO.out, HE.out]; rfl, B1.out.trans (HB4.out.mono B1.out.size)⟩
    · obtain rfl : k = l.length := by omega
      have HE := Lib.hid (show l.all (okName 1) = true by have := HT.out; rwa [List.take_length] at this)
      go_wp2_with fail
      go_ret
      exact ⟨by rw [HO.out, HE.out]; rfl, B1.out.trans (HB.out.mono B1.out.size)⟩
theorem refRoutine_any (d : Int) (hd : d = 0 ∨ d = 1) (s : ByteArray) (w : World) (hs : s.size ≤ 2000000) : Calls Tryz.prog 66 #[.int .i64 d, .string s] w fun e w' => e = .returned (.bool (okR d s)) ∧ Below w.heap.size w w' := by
  rcases hd with rfl | rfl
  · exact refRoutine_0 s w hs
  · exact refRoutine_1 s w hs
end Go.Proofs.YtciijpahjjoppaaGreat
end
