/-
  Texts of this proof, put together.
-/
import Derived.Test.YtpcldpnaljheoaaGreatDoorZz2
import Derived.Test.YtpcldpnaljheoaaGreatDoorZz5
import Derived.Deep.RegionWith
import Derived.Test.YtpcldpnaljheoaaGreatDoorCards
import Derived.Test.YtpcldpnaljheoaaGreatDoorTie
import Derived.WalkKit
import Derived.ProofKit
import Derived.OpenShut
import Derived.ShutString
import Derived.ChangeOld
import Derived.Below
import Derived.Lib.LaidTab
import Derived.Deep.DeepHandedRow
import Derived.Deep.MidRow
import Derived.Stop.LaidErr
import Derived.Lay
import Derived.Test.YtpcldpnaljheoaaGreatDoorZz4
import Derived.Test.YtpcldpnaljheoaaGreatDoorZz1
import Derived.Laws.StructEq
import Derived.Shelf.SlicesE.Kit
import Derived.StillTailTactics
import Derived.Lib.QuietBelow
section
namespace Go.Proofs.YtpcldpnaljheoaaGreatDoor
open Go.RowKit Go.Deep Go.Maps

theorem At.slTake {w : World} {a : Option Addr} {len cap : Nat} {l : List (List D)} (h : At w (.slice a len cap) (.row l)) (u : Nat) (hu : u ≤ len) : ∃ a1, sliced a 0 u cap 5 = .slice a1 u cap ∧ At w (.slice a1 u cap) (.row (l.take u)) := by
  cases h with
  | nil a cap hc =>
    obtain rfl : u = 0 := by omega
    exact ⟨(if cap = 0 then a else a.map (·.add (0 * 5))), rfl, .nil _ _ hc⟩
  | row b o len cap k _ cs h1 h2 h3 h4 h5 h6 h7 h8 =>
    refine ⟨some ⟨b, o, none⟩, ?_, ?_⟩
    · unfold sliced
      by_cases hc : cap = 0 <;> simp [hc, Addr.add]
    · refine .row b o u cap k _ cs (by rw [List.length_take, h1]; omega) (by omega) h3 h4 (fun j hj => h5 j (by omega)) (fun j ds hj => ?_) (fun j i v hj hv => h7 j i v (by omega) hv) (fun j i ds v dd hj hv hd => ?_)
      · rw [List.getElem?_take] at hj
        split at hj
        · exact h6 j ds hj
        · cases hj
      · rw [List.getElem?_take] at hj
        split at hj
        · exact h8 j i ds v dd hj hv hd
        · cases hj
theorem At.slDrop {w : World} {a : Option Addr} {len cap : Nat} {l : List (List D)} (h : At w (.slice a len cap) (.row l)) (hl : ∀ x ∈ l, x.length = 5) (u : Nat) (hu : u ≤ len) : ∃ a2, sliced a u len cap 5 = .slice a2 (len - u) (cap - u) ∧ At w (.slice a2 (len - u) (cap - u)) (.row (l.drop u)) := by
  have e := h.len_eq
  by_cases hz : u = len
  · subst hz
    have hd : l.drop u = [] := List.drop_eq_nil_of_le (by omega)
    rw [hd, Nat.sub_self]
    exact ⟨_, by unfold sliced; rw [Nat.sub_self], .nil _ _ (by omega)⟩
  · cases h with
    | nil a cap hc => omega
    | row b o len cap k _ cs h1 h2 h3 h4 h5 h6 h7 h8 =>
      have hk : k = 5 := by
        have hx : l[0]? = some (l[0]'(by omega)) := List.getElem?_eq_getElem (by omega)
        rw [← h6 0 _ hx]
        exact hl _ (List.mem_of_getElem? hx)
      subst hk
      refine ⟨some ⟨b, o + u * 5, none⟩, ?_, ?_⟩
      · unfold sliced
        rw [if_neg (by omega), Option.map_some, add_mid2]
      · refine .row b (o + u * 5) (len - u) (cap - u) 5 _ (fun j => cs (u + j)) (by rw [List.length_drop, h1]) (by omega) (by omega) h4 (fun j hj => h5 (u + j) (by omega)) (fun j ds hj => ?_) (fun j i v hj hv => ?_) (fun j i ds v dd hj hv hd => ?_)
        · rw [List.getElem?_drop] at hj
          exact h6 _ ds hj
        · have := h7 (u + j) i v (by omega) hv
          rwa [show o + (u + j) * 5 + i = o + u * 5 + j * 5 + i by omega] at this
        · rw [List.getElem?_drop] at hj
          exact h8 _ i ds v dd hj hv hd
theorem okfn_up (w0 : World) (d ar : Int) (l : List (List D)) (hs : ∀ x ∈ l, ShE x) : OkFn w0 174 (.agg #[.int .i64 d, .int .i64 ar]) l (upD d) := fun x hx vs hv W _ => by
  obtain ⟨op, n, nm, fd, kl, kla, klc, rfl, rfl, _, _, hnm, _, _, _⟩ := hv.openE (hs x hx)
  exact up_any d ar op n nm fd kla kl.length klc W hnm
theorem ShE.len5 {x : List D} (h : ShE x) : x.length = 5 := by cases h; rfl
theorem run_sliceH {a : Act} {o : Oper} {x y : Operand} (ho : o.op = .slice 23 x none (some y) none) {la : Option Addr} {len cap u : Nat} (hx : a.eval x = .slice la len cap) (hy : a.eval y = .int .i64 (u : Nat)) (h0 : (0 : Int) ≤ (u : Int)) (h1 : (u : Int) ≤ (cap : Int)) {v : Value} (e : sliced la 0 u cap 5 = v) (w : World) : (execOp a.eval o).run Tryz.prog w = .ok (.value v) w := by
  rw [← e]
  unfold execOp
  simp only [ho, Option.map_some, Option.map_none, hx, hy]
  go_simp
theorem run_sliceL {a : Act} {o : Oper} {x y : Operand} (ho : o.op = .slice 23 x (some y) none none) {la : Option Addr} {len cap u : Nat} (hx : a.eval x = .slice la len cap) (hy : a.eval y = .int .i64 (u : Nat)) (h0 : (0 : Int) ≤ (u : Int)) (h1 : (u : Int) ≤ (len : Int)) {v : Value} (e : sliced la u len cap 5 = v) (w : World) : (execOp a.eval o).run Tryz.prog w = .ok (.value v) w := by
  rw [← e]
  unfold execOp
  simp only [ho, Option.map_some, Option.map_none, hx, hy]
  go_simp
def CaS (w : World) (d : Int) (ar : Nat) (op n : Int) (nm fd : ByteArray) (la : Option Addr) (l : List (List D)) (lc : Nat) (W : World) : Prop := W.cell? ⟨w.heap.size, 0, none⟩ = some (.int .i64 d) ∧ W.cell? ⟨w.heap.size, 1, none⟩ = some (.int .i64 ar) ∧ W.cell? ⟨w.heap.size + 1, 0, none⟩ = some (.int .i64 op) ∧ W.cell? ⟨w.heap.size + 1, 1, none⟩ = some (.int .i64 n) ∧ W.cell? ⟨w.heap.size + 1, 2, none⟩ = some (.string nm) ∧ W.cell? ⟨w.heap.size + 1, 3, none⟩ = some (.string fd) ∧ W.cell? ⟨w.heap.size + 1, 4, none⟩ = some (.slice la l.length lc) ∧ Since w W
theorem CaS.step {w : World} {d : Int} {ar : Nat} {op n : Int} {nm fd : ByteArray} {la : Option Addr} {l : List (List D)} {lc : Nat} {W W' : World} (h : CaS w d ar op n nm fd la l lc W) (b : Below W.heap.size W W') : CaS w d ar op n nm fd la l lc W' := by
  obtain ⟨h1, h2, h3, h4, h5, h6, h7, h8⟩ := h
  exact ⟨cell_stays h1 b, cell_stays h2 b, cell_stays h3 b, cell_stays h4 b, cell_stays h5 b, cell_stays h6 b, cell_stays h7 b, h8.step b⟩
set_option maxRecDepth 100000 in
set_option maxHeartbeats 4000000 in
theorem call_form (w0 : World) (d : Int) (ar k : Nat) (hk : ar + (k + 1) = 48) (op n : Int) (nm fd : ByteArray) (la : Option Addr) (l : List (List D)) (lc : Nat) (hnm : nm.size ≤ maxLen) (hA : At w0 (.slice la l.length lc) (.row l)) (hs : ∀ x ∈ l, ShE x)
    (hf : OkFn w0 91 (.agg #[.int .i64 d, .int .i64 ((ar + 1 : Nat) : Int)]) l (okE d k)) (w : World) (hW : Below w0.heap.size w0 w) :
    Calls Tryz.prog 140 #[.agg #[.int .i64 d, .int .i64 ar], .agg #[.int .i64 op, .int .i64 n, .string nm, .string fd, .slice la l.length lc]] w fun e w' => e = .returned (.bool (callE d n nm fd l (okE d k))) ∧ Below w.heap.size w w' := by
  have KP := Lib.hid (box_first w (.cells #[.int .i64 d, .int .i64 ar] 140) (.cells #[.int .i64 op, .int .i64 n, .string nm, .string fd, .slice la l.length lc] 25))
  have KQ := Lib.hid (box_second w (.cells #[.int .i64 d, .int .i64 ar] 140) (.cells #[.int .i64 op, .int .i64 n, .string nm, .string fd, .slice la l.length lc] 25))
  have R0 := Lib.hid (((Below.refl w.heap.size w).alloc (Nat.le_refl _) (.cells #[.int .i64 d, .int .i64 ar] 140)).alloc (by simp) (.cells #[.int .i64 op, .int .i64 n, .string nm, .string fd, .slice la l.length lc] 25))
  have HW := Lib.hid hW
  have hue := firstU_le d l
  have hlc := hA.len_eq.2
  have HO := Lib.hid (show callE d n nm fd l (okE d k) = ((n == 0) && (fd.toList.isEmpty && (okR d nm && (decide (((l.length : Nat) : Int) ≤ 512) && (okAll (l.take (firstU d l)) (okE d k) && okAll (l.drop (firstU d l)) (upD d)))))) by unfold callE; rw [show decide (l.length ≤ 512) = decide (((l.length : Nat) : Int) ≤ 512) from decide_eq_decide.2 (by omega)])
  have FU := Lib.hid (firstUp_any w0 d ar la l.length lc l hA hs _ (HW.out.trans (R0.out.mono HW.out.size)))
  generalize hu : firstU d l = u at *
  obtain ⟨a1, e1, A1⟩ := hA.slTake u hue
  obtain ⟨a2, e2, A2⟩ := hA.slDrop (fun x hx => (hs x hx).len5) u hue
  have L1 := Lib.hid (fun (W : World) (hW : Below w0.heap.size w0 W) => allE_any w0 91 (.agg #[.int .i64 d, .int .i64 ((ar + 1 : Nat) : Int)]) (okE d k) a1 u lc (l.take u) A1 (fun x hx => hs x (List.mem_of_mem_take hx)) (fun x hx => hf x (List.mem_of_mem_take hx)) (enters_of Tryz.func91 (by kernel_rfl) rfl) W hW)
  have L2 := Lib.hid (fun (W : World) (hW : Below w0.heap.size w0 W) => allE_any w0 174 (.agg #[.int .i64 d, .int .i64 ar]) (upD d) a2 (l.length - u) (lc - u) (l.drop u) A2 (fun x hx => hs x (List.mem_of_mem_drop hx)) (okfn_up w0 d ar _ (fun x hx => hs x (List.mem_of_mem_drop hx))) (enters_of Tryz.func174 (by kernel_rfl) rfl) W hW)
  have E1 := Lib.hid e1
  have E2 := Lib.hid e2
  clear hA hs hf hW A1 A2 e1 e2
  generalize okAll (l.take u) (okE d k) = r1 at *
  generalize okAll (l.drop u) (upD d) = r2 at *
  go_enter Tryz.func140, Tryz.ntmps140
  go_wp2_with fail
  refine FU.out.mono ?_
  rintro e w2 ⟨rfl, b2⟩
  have R2 := Lib.hid (R0.out.trans (b2.mono R0.out.size))
  have KP2 := Lib.hid ((b2.block _ (heap_lt KP.out)).trans KP.out)
  have KQ2 := Lib.hid ((b2.block _ (heap_lt KQ.out)).trans KQ.out)
  have cP2 := box_cells KP2.out
  have cQ2 := box_cells KQ2.out
  clear b2
  go_wp2_with fail
  have S0 := Lib.hid (show CaS w d ar op n nm fd la l lc w2.drew from ⟨cP2 0, cP2 1, cQ2 0, cQ2 1, cQ2 2, cQ2 3, cQ2 4, below_drew0 R2.out⟩)
  have DP := Lib.hid (show ∀ W, CaS w d ar op n nm fd la l lc W → Calls Tryz.prog 144 #[.agg #[.int .i64 d, .int .i64 ar]] W fun e W' => e = .returned (.agg #[.int .i64 d, .int .i64 ((ar + 1 : Nat) : Int)]) ∧ CaS w d ar op n nm fd la l lc W' from fun W hS => (deeper_any d ar W (by omega)).mono fun e W' h => ⟨h.1, hS.step h.2⟩)
  have RN := Lib.hid (show ∀ W, CaS w d ar op n nm fd la l lc W → Calls Tryz.prog 173 #[.agg #[.int .i64 d, .int .i64 ar], .string nm] W fun e W' => e = .returned (.bool (okR d nm)) ∧ CaS w d ar op n nm fd la l lc W' from fun W hS => (rname_any d ar nm W hnm).mono fun e W' h => ⟨h.1, hS.step h.2⟩)
  have A1 := Lib.hid (show ∀ W, CaS w d ar op n nm fd la l lc W → Calls Tryz.prog 143 #[.slice a1 u lc, .func (.func 91) #[.agg #[.int .i64 d, .int .i64 ((ar + 1 : Nat) : Int)]] #[]] W fun e W' => e = .returned (.bool r1) ∧ CaS w d ar op n nm fd la l lc W' from fun W hS => (L1.out W (HW.out.trans (Below.mono hS.2.2.2.2.2.2.2 HW.out.size))).mono fun e W' h => ⟨h.1, hS.step h.2⟩)
  have A2 := Lib.hid (show ∀ W, CaS w d ar op n nm fd la l lc W → Calls Tryz.prog 143 #[.slice a2 (l.length - u) (lc - u), .func (.func 174) #[.agg #[.int .i64 d, .int .i64 ar]] #[]] W fun e W' => e = .returned (.bool r2) ∧ CaS w d ar op n nm fd la l lc W' from fun W hS => (L2.out W (HW.out.trans (Below.mono hS.2.2.2.2.2.2.2 HW.out.size))).mono fun e W' h => ⟨h.1, hS.step h.2⟩)
  have hu0 : (0 : Int) ≤ (u : Int) := by omega
  have hu1 : (u : Int) ≤ (lc : Int) := by omega
  have hu2 : (u : Int) ≤ (l.length : Int) := by omega
  clear L1 L2 HW KP KQ R0 R2 KP2 KQ2 cP2 cQ2 FU hue hlc hk
  generalize hrn : okR d nm = rn at *
  clear hrn hu
  refine wp_region_held (S := fun w' => w'.cell? ⟨w.heap.size, 0, none⟩ = some (.int .i64 d) ∧ w'.cell? ⟨w.heap.size, 1, none⟩ = some (.int .i64 ar) ∧ w'.cell? ⟨w.heap.size + 1, 0, none⟩ = some (.int .i64 op) ∧ w'.cell? ⟨w.heap.size + 1, 1, none⟩ = some (.int .i64 n) ∧ w'.cell? ⟨w.heap.size + 1, 2, none⟩ = some (.string nm) ∧ w'.cell? ⟨w.heap.size + 1, 3, none⟩ = some (.string fd) ∧ w'.cell? ⟨w.heap.size + 1, 4, none⟩ = some (.slice la l.length lc) ∧ Since w w') (by kernel_rfl) ?_
  have hHeld := S0.out
  change (fun w' => w'.cell? ⟨w.heap.size, 0, none⟩ = some (.int .i64 d) ∧ w'.cell? ⟨w.heap.size, 1, none⟩ = some (.int .i64 ar) ∧ w'.cell? ⟨w.heap.size + 1, 0, none⟩ = some (.int .i64 op) ∧ w'.cell? ⟨w.heap.size + 1, 1, none⟩ = some (.int .i64 n) ∧ w'.cell? ⟨w.heap.size + 1, 2, none⟩ = some (.string nm) ∧ w'.cell? ⟨w.heap.size + 1, 3, none⟩ = some (.string fd) ∧ w'.cell? ⟨w.heap.size + 1, 4, none⟩ = some (.slice la l.length lc) ∧ Since w w') _ at hHeld
  refine wpAnyH_take (i := 0) (oi := ⟨some 10, .fieldAddr 25 (.tmp 3) 1, 0, "check.go:258", #[], none⟩) (v := ?v0_1) rfl (by kernel_rfl) (by kernel_rfl) (by kernel_rfl) (fun _ _ _ h => h) (Or.inl ⟨by rfl, ?hy0_1⟩) hHeld ?rest0_1
  case hy0_1 => (intro W hSW; (try dsimp only at hSW); go_simp; try with_reducible rfl)
  try simp only [Act.put, List.setIfInBounds_toArray, List.set_cons_zero, List.set_cons_succ]
  refine wpAnyH_take (i := 1) (oi := ⟨some 11, .load 2 (.tmp 10), 2, "check.go:258", #[⟨0, .data⟩], none⟩) (v := ?v1_2) rfl (by kernel_rfl) (by kernel_rfl) (by kernel_rfl) (fun _ _ _ h => h) (Or.inl ⟨by rfl, ?hy1_2⟩) hHeld ?rest1_2
  case hy1_2 => (intro W hSW; (try dsimp only at hSW); go_simp; try with_reducible rfl)
  try simp only [Act.put, List.setIfInBounds_toArray, List.set_cons_zero, List.set_cons_succ]
  cases hn0 : n == 0 with
  | false =>
    refine wpAnyH_take (i := 2) (oi := ⟨some 12, .binOp .eql 2 (.tmp 11) (.const (.int .i64 0)) 2, 4, "check.go:258", #[⟨1, .data⟩], none⟩) (v := ?v2_3) rfl (by kernel_rfl) (by kernel_rfl) (by kernel_rfl) (fun _ _ _ h => h) (Or.inl ⟨by rfl, ?hy2_3⟩) hHeld ?rest2_3
    case hy2_3 => (intro W hSW; (try dsimp only at hSW); go_simp; try with_reducible rfl)
    try simp only [Act.put, List.setIfInBounds_toArray, List.set_cons_zero, List.set_cons_succ]
    refine wpAnyH_take (i := 3) (oi := ⟨some 13, .move (.tmp 12), 4, "check.go:258", #[⟨2, .data⟩], none⟩) (v := ?v3_4) rfl (by kernel_rfl) (by kernel_rfl) (by kernel_rfl) (fun _ _ _ h => h) (Or.inl ⟨by rfl, ?hy3_4⟩) hHeld ?rest3_4
    case hy3_4 => (intro W hSW; (try dsimp only at hSW); go_simp; try with_reducible rfl)
    try simp only [Act.put, List.setIfInBounds_toArray, List.set_cons_zero, List.set_cons_succ]
    refine wpAnyH_take (i := 4) (oi := ⟨some 14, .fieldAddr 25 (.tmp 3) 3, 0, "check.go:258", #[⟨3, .guard⟩], some (3, true)⟩) (v := undef) rfl (by kernel_rfl) (by kernel_rfl) (by kernel_rfl) (fun _ _ _ h => h) (Or.inr ⟨by rfl, rfl⟩) hHeld ?_
    try simp only [Act.put, List.setIfInBounds_toArray, List.set_cons_zero, List.set_cons_succ]
    refine wpAnyH_take (i := 5) (oi := ⟨some 15, .load 9 (.tmp 14), 9, "check.go:258", #[⟨4, .data⟩, ⟨3, .guard⟩], some (3, true)⟩) (v := undef) rfl (by kernel_rfl) (by kernel_rfl) (by kernel_rfl) (fun _ _ _ h => h) (Or.inr ⟨by rfl, rfl⟩) hHeld ?_
    try simp only [Act.put, List.setIfInBounds_toArray, List.set_cons_zero, List.set_cons_succ]
    refine wpAnyH_take (i := 6) (oi := ⟨some 16, .binOp .eql 9 (.tmp 15) (.const (.string { data := #[] })) 9, 4, "check.go:258", #[⟨5, .data⟩, ⟨3, .guard⟩], some (3, true)⟩) (v := undef) rfl (by kernel_rfl) (by kernel_rfl) (by kernel_rfl) (fun _ _ _ h => h) (Or.inr ⟨by rfl, rfl⟩) hHeld ?_
    try simp only [Act.put, List.setIfInBounds_toArray, List.set_cons_zero, List.set_cons_succ]
    refine wpAnyH_take (i := 7) (oi := ⟨some 17, .pick (.tmp 13) (.tmp 16) (.const (.bool false)), 4, "check.go:258", #[⟨3, .data⟩, ⟨6, .data⟩], none⟩) (v := ?v7_5) rfl (by kernel_rfl) (by kernel_rfl) (by kernel_rfl) (fun _ _ _ h => h) (Or.inl ⟨by rfl, ?hy7_5⟩) hHeld ?rest7_5
    case hy7_5 => (intro W hSW; (try dsimp only at hSW); go_simp; try with_reducible rfl)
    try simp only [Act.put, List.setIfInBounds_toArray, List.set_cons_zero, List.set_cons_succ]
    refine wpAnyH_take (i := 8) (oi := ⟨some 18, .move (.tmp 17), 4, "check.go:258", #[⟨7, .data⟩, ⟨3, .chain⟩], none⟩) (v := ?v8_6) rfl (by kernel_rfl) (by kernel_rfl) (by kernel_rfl) (fun _ _ _ h => h) (Or.inl ⟨by rfl, ?hy8_6⟩) hHeld ?rest8_6
    case hy8_6 => (intro W hSW; (try dsimp only at hSW); go_simp; try with_reducible rfl)
    try simp only [Act.put, List.setIfInBounds_toArray, List.set_cons_zero, List.set_cons_succ]
    refine wpAnyH_take (i := 9) (oi := ⟨some 19, .load 140 (.tmp 2), 140, "check.go:258", #[⟨8, .guard⟩], some (8, true)⟩) (v := undef) rfl (by kernel_rfl) (by kernel_rfl) (by kernel_rfl) (fun _ _ _ h => h) (Or.inr ⟨by rfl, rfl⟩) hHeld ?_
    try simp only [Act.put, List.setIfInBounds_toArray, List.set_cons_zero, List.set_cons_succ]
    refine wpAnyH_take (i := 10) (oi := ⟨some 20, .fieldAddr 25 (.tmp 3) 2, 0, "check.go:258", #[⟨8, .guard⟩], some (8, true)⟩) (v := undef) rfl (by kernel_rfl) (by kernel_rfl) (by kernel_rfl) (fun _ _ _ h => h) (Or.inr ⟨by rfl, rfl⟩) hHeld ?_
    try simp only [Act.put, List.setIfInBounds_toArray, List.set_cons_zero, List.set_cons_succ]
    refine wpAnyH_take (i := 11) (oi := ⟨some 21, .load 9 (.tmp 20), 9, "check.go:258", #[⟨10, .data⟩, ⟨8, .guard⟩], some (8, true)⟩) (v := undef) rfl (by kernel_rfl) (by kernel_rfl) (by kernel_rfl) (fun _ _ _ h => h) (Or.inr ⟨by rfl, rfl⟩) hHeld ?_
    try simp only [Act.put, List.setIfInBounds_toArray, List.set_cons_zero, List.set_cons_succ]
    refine wpAnyH_ready (rs := [12]) (by kernel_rfl) (by simp) ?_
    refine AllReadyH.cons (o := ⟨some 22, .call { callee := .value (.func 173), args := #[.tmp 19, .tmp 21], argTypes := #[140, 9] }, 4, "check.go:258", #[⟨9, .data⟩, ⟨11, .data⟩, ⟨8, .chain⟩, ⟨8, .guard⟩], some (8, true)⟩) rfl (fun K hK => ?_) AllReadyH.nil
    go_simp
    refine hK.out _ _ hHeld (fun _ => ?_)
    clear hK K
    try simp only [Act.put, List.setIfInBounds_toArray, List.set_cons_zero, List.set_cons_succ]
    refine wpAnyH_take (i := 13) (oi := ⟨some 23, .pick (.tmp 18) (.tmp 22) (.const (.bool false)), 4, "check.go:258", #[⟨8, .data⟩, ⟨12, .data⟩], none⟩) (v := ?v13_7) rfl (by kernel_rfl) (by kernel_rfl) (by kernel_rfl) (fun _ _ _ h => h) (Or.inl ⟨by rfl, ?hy13_7⟩) hHeld ?rest13_7
    case hy13_7 => (intro W hSW; (try dsimp only at hSW); go_simp; try with_reducible rfl)
    try simp only [Act.put, List.setIfInBounds_toArray, List.set_cons_zero, List.set_cons_succ]
    refine wpAnyH_take (i := 14) (oi := ⟨some 24, .move (.tmp 23), 4, "check.go:258", #[⟨13, .data⟩, ⟨12, .chain⟩], none⟩) (v := ?v14_8) rfl (by kernel_rfl) (by kernel_rfl) (by kernel_rfl) (fun _ _ _ h => h) (Or.inl ⟨by rfl, ?hy14_8⟩) hHeld ?rest14_8
    case hy14_8 => (intro W hSW; (try dsimp only at hSW); go_simp; try with_reducible rfl)
    try simp only [Act.put, List.setIfInBounds_toArray, List.set_cons_zero, List.set_cons_succ]
    refine wpAnyH_take (i := 15) (oi := ⟨some 25, .fieldAddr 25 (.tmp 3) 4, 0, "check.go:258", #[⟨14, .guard⟩], some (14, true)⟩) (v := undef) rfl (by kernel_rfl) (by kernel_rfl) (by kernel_rfl) (fun _ _ _ h => h) (Or.inr ⟨by rfl, rfl⟩) hHeld ?_
    try simp only [Act.put, List.setIfInBounds_toArray, List.set_cons_zero, List.set_cons_succ]
    refine wpAnyH_take (i := 16) (oi := ⟨some 26, .load 23 (.tmp 25), 23, "check.go:258", #[⟨15, .data⟩, ⟨14, .guard⟩], some (14, true)⟩) (v := undef) rfl (by kernel_rfl) (by kernel_rfl) (by kernel_rfl) (fun _ _ _ h => h) (Or.inr ⟨by rfl, rfl⟩) hHeld ?_
    try simp only [Act.put, List.setIfInBounds_toArray, List.set_cons_zero, List.set_cons_succ]
    refine wpAnyH_take (i := 17) (oi := ⟨some 27, .call { callee := .builtin .len, args := #[.tmp 26], argTypes := #[23] }, 3, "check.go:258", #[⟨16, .data⟩, ⟨14, .guard⟩], some (14, true)⟩) (v := undef) rfl (by kernel_rfl) (by kernel_rfl) (by kernel_rfl) (fun _ _ _ h => h) (Or.inr ⟨by rfl, rfl⟩) hHeld ?_
    try simp only [Act.put, List.setIfInBounds_toArray, List.set_cons_zero, List.set_cons_succ]
    refine wpAnyH_take (i := 18) (oi := ⟨some 28, .binOp .leq 3 (.tmp 27) (.const (.int .i64 512)) 3, 4, "check.go:258", #[⟨17, .data⟩, ⟨14, .guard⟩], some (14, true)⟩) (v := undef) rfl (by kernel_rfl) (by kernel_rfl) (by kernel_rfl) (fun _ _ _ h => h) (Or.inr ⟨by rfl, rfl⟩) hHeld ?_
    try simp only [Act.put, List.setIfInBounds_toArray, List.set_cons_zero, List.set_cons_succ]
    refine wpAnyH_take (i := 19) (oi := ⟨some 29, .pick (.tmp 24) (.tmp 28) (.const (.bool false)), 4, "check.go:258", #[⟨14, .data⟩, ⟨18, .data⟩], none⟩) (v := ?v19_9) rfl (by kernel_rfl) (by kernel_rfl) (by kernel_rfl) (fun _ _ _ h => h) (Or.inl ⟨by rfl, ?hy19_9⟩) hHeld ?rest19_9
    case hy19_9 => (intro W hSW; (try dsimp only at hSW); go_simp; try with_reducible rfl)
    try simp only [Act.put, List.setIfInBounds_toArray, List.set_cons_zero, List.set_cons_succ]
    refine wpAnyH_take (i := 20) (oi := ⟨some 30, .move (.tmp 29), 4, "check.go:258", #[⟨19, .data⟩, ⟨14, .chain⟩], none⟩) (v := ?v20_10) rfl (by kernel_rfl) (by kernel_rfl) (by kernel_rfl) (fun _ _ _ h => h) (Or.inl ⟨by rfl, ?hy20_10⟩) hHeld ?rest20_10
    case hy20_10 => (intro W hSW; (try dsimp only at hSW); go_simp; try with_reducible rfl)
    try simp only [Act.put, List.setIfInBounds_toArray, List.set_cons_zero, List.set_cons_succ]
    refine wpAnyH_take (i := 21) (oi := ⟨some 31, .fieldAddr 25 (.tmp 3) 4, 0, "check.go:258", #[⟨20, .guard⟩], some (20, true)⟩) (v := undef) rfl (by kernel_rfl) (by kernel_rfl) (by kernel_rfl) (fun _ _ _ h => h) (Or.inr ⟨by rfl, rfl⟩) hHeld ?_
    try simp only [Act.put, List.setIfInBounds_toArray, List.set_cons_zero, List.set_cons_succ]
    refine wpAnyH_take (i := 22) (oi := ⟨some 32, .load 23 (.tmp 31), 23, "check.go:258", #[⟨21, .data⟩, ⟨20, .guard⟩], some (20, true)⟩) (v := undef) rfl (by kernel_rfl) (by kernel_rfl) (by kernel_rfl) (fun _ _ _ h => h) (Or.inr ⟨by rfl, rfl⟩) hHeld ?_
    try simp only [Act.put, List.setIfInBounds_toArray, List.set_cons_zero, List.set_cons_succ]
    refine wpAnyH_take (i := 23) (oi := ⟨some 33, .move (.tmp 5), 3, "check.go:258", #[⟨20, .guard⟩], some (20, true)⟩) (v := undef) rfl (by kernel_rfl) (by kernel_rfl) (by kernel_rfl) (fun _ _ _ h => h) (Or.inr ⟨by rfl, rfl⟩) hHeld ?_
    try simp only [Act.put, List.setIfInBounds_toArray, List.set_cons_zero, List.set_cons_succ]
    refine wpAnyH_take (i := 24) (oi := ⟨some 34, .slice 23 (.tmp 32) none (some (.tmp 33)) none, 23, "check.go:258", #[⟨22, .data⟩, ⟨23, .data⟩, ⟨20, .guard⟩], some (20, true)⟩) (v := undef) rfl (by kernel_rfl) (by kernel_rfl) (by kernel_rfl) (fun _ _ _ h => h) (Or.inr ⟨by rfl, rfl⟩) hHeld ?_
    try simp only [Act.put, List.setIfInBounds_toArray, List.set_cons_zero, List.set_cons_succ]
    refine wpAnyH_take (i := 25) (oi := ⟨some 35, .load 140 (.tmp 2), 140, "check.go:258", #[⟨20, .guard⟩], some (20, true)⟩) (v := undef) rfl (by kernel_rfl) (by kernel_rfl) (by kernel_rfl) (fun _ _ _ h => h) (Or.inr ⟨by rfl, rfl⟩) hHeld ?_
    try simp only [Act.put, List.setIfInBounds_toArray, List.set_cons_zero, List.set_cons_succ]
    refine wpAnyH_ready (rs := [26]) (by kernel_rfl) (by simp) ?_
    refine AllReadyH.cons (o := ⟨some 36, .call { callee := .value (.func 144), args := #[.tmp 35], argTypes := #[140] }, 140, "check.go:259", #[⟨25, .data⟩, ⟨20, .chain⟩, ⟨20, .guard⟩], some (20, true)⟩) rfl (fun K hK => ?_) AllReadyH.nil
    go_simp
    refine hK.out _ _ hHeld (fun _ => ?_)
    clear hK K
    try simp only [Act.put, List.setIfInBounds_toArray, List.set_cons_zero, List.set_cons_succ]
    refine wpAnyH_ready (rs := [27]) (by kernel_rfl) (by simp) ?_
    refine AllReadyH.cons (o := ⟨some 37, .makeFunc (.func 91) #[.tmp 36] #[], 40, "check.go:258", #[⟨26, .data⟩, ⟨20, .guard⟩], some (20, true)⟩) rfl (fun K hK => ?_) AllReadyH.nil
    go_simp
    refine hK.out _ _ hHeld (fun _ => ?_)
    clear hK K
    try simp only [Act.put, List.setIfInBounds_toArray, List.set_cons_zero, List.set_cons_succ]
    refine wpAnyH_ready (rs := [28]) (by kernel_rfl) (by simp) ?_
    refine AllReadyH.cons (o := ⟨some 38, .call { callee := .value (.func 143), args := #[.tmp 34, .tmp 37], argTypes := #[23, 40] }, 4, "check.go:259", #[⟨24, .data⟩, ⟨27, .data⟩, ⟨26, .chain⟩, ⟨20, .guard⟩], some (20, true)⟩) rfl (fun K hK => ?_) AllReadyH.nil
    go_simp
    refine hK.out _ _ hHeld (fun _ => ?_)
    clear hK K
    try simp only [Act.put, List.setIfInBounds_toArray, List.set_cons_zero, List.set_cons_succ]
    refine wpAnyH_take (i := 29) (oi := ⟨some 39, .pick (.tmp 30) (.tmp 38) (.const (.bool false)), 4, "check.go:258", #[⟨20, .data⟩, ⟨28, .data⟩], none⟩) (v := ?v29_11) rfl (by kernel_rfl) (by kernel_rfl) (by kernel_rfl) (fun _ _ _ h => h) (Or.inl ⟨by rfl, ?hy29_11⟩) hHeld ?rest29_11
    case hy29_11 => (intro W hSW; (try dsimp only at hSW); go_simp; try with_reducible rfl)
    try simp only [Act.put, List.setIfInBounds_toArray, List.set_cons_zero, List.set_cons_succ]
    refine wpAnyH_take (i := 30) (oi := ⟨some 40, .move (.tmp 39), 4, "check.go:258", #[⟨29, .data⟩, ⟨28, .chain⟩], none⟩) (v := ?v30_12) rfl (by kernel_rfl) (by kernel_rfl) (by kernel_rfl) (fun _ _ _ h => h) (Or.inl ⟨by rfl, ?hy30_12⟩) hHeld ?rest30_12
    case hy30_12 => (intro W hSW; (try dsimp only at hSW); go_simp; try with_reducible rfl)
    try simp only [Act.put, List.setIfInBounds_toArray, List.set_cons_zero, List.set_cons_succ]
    refine wpAnyH_take (i := 31) (oi := ⟨some 41, .fieldAddr 25 (.tmp 3) 4, 0, "check.go:258", #[⟨30, .guard⟩], some (30, true)⟩) (v := undef) rfl (by kernel_rfl) (by kernel_rfl) (by kernel_rfl) (fun _ _ _ h => h) (Or.inr ⟨by rfl, rfl⟩) hHeld ?_
    try simp only [Act.put, List.setIfInBounds_toArray, List.set_cons_zero, List.set_cons_succ]
    refine wpAnyH_take (i := 32) (oi := ⟨some 42, .load 23 (.tmp 41), 23, "check.go:258", #[⟨31, .data⟩, ⟨30, .guard⟩], some (30, true)⟩) (v := undef) rfl (by kernel_rfl) (by kernel_rfl) (by kernel_rfl) (fun _ _ _ h => h) (Or.inr ⟨by rfl, rfl⟩) hHeld ?_
    try simp only [Act.put, List.setIfInBounds_toArray, List.set_cons_zero, List.set_cons_succ]
    refine wpAnyH_take (i := 33) (oi := ⟨some 43, .move (.tmp 5), 3, "check.go:258", #[⟨30, .guard⟩], some (30, true)⟩) (v := undef) rfl (by kernel_rfl) (by kernel_rfl) (by kernel_rfl) (fun _ _ _ h => h) (Or.inr ⟨by rfl, rfl⟩) hHeld ?_
    try simp only [Act.put, List.setIfInBounds_toArray, List.set_cons_zero, List.set_cons_succ]
    refine wpAnyH_take (i := 34) (oi := ⟨some 44, .slice 23 (.tmp 42) (some (.tmp 43)) none none, 23, "check.go:258", #[⟨32, .data⟩, ⟨33, .data⟩, ⟨30, .guard⟩], some (30, true)⟩) (v := undef) rfl (by kernel_rfl) (by kernel_rfl) (by kernel_rfl) (fun _ _ _ h => h) (Or.inr ⟨by rfl, rfl⟩) hHeld ?_
    try simp only [Act.put, List.setIfInBounds_toArray, List.set_cons_zero, List.set_cons_succ]
    refine wpAnyH_take (i := 35) (oi := ⟨some 45, .load 140 (.tmp 2), 140, "check.go:258", #[⟨30, .guard⟩], some (30, true)⟩) (v := undef) rfl (by kernel_rfl) (by kernel_rfl) (by kernel_rfl) (fun _ _ _ h => h) (Or.inr ⟨by rfl, rfl⟩) hHeld ?_
    try simp only [Act.put, List.setIfInBounds_toArray, List.set_cons_zero, List.set_cons_succ]
    refine wpAnyH_ready (rs := [36]) (by kernel_rfl) (by simp) ?_
    refine AllReadyH.cons (o := ⟨some 46, .makeFunc (.func 174) #[.tmp 45] #[], 40, "check.go:258", #[⟨35, .data⟩, ⟨30, .guard⟩], some (30, true)⟩) rfl (fun K hK => ?_) AllReadyH.nil
    go_simp
    refine hK.out _ _ hHeld (fun _ => ?_)
    clear hK K
    try simp only [Act.put, List.setIfInBounds_toArray, List.set_cons_zero, List.set_cons_succ]
    refine wpAnyH_ready (rs := [37]) (by kernel_rfl) (by simp) ?_
    refine AllReadyH.cons (o := ⟨some 47, .call { callee := .value (.func 143), args := #[.tmp 44, .tmp 46], argTypes := #[23, 40] }, 4, "check.go:259", #[⟨34, .data⟩, ⟨36, .data⟩, ⟨30, .chain⟩, ⟨30, .guard⟩], some (30, true)⟩) rfl (fun K hK => ?_) AllReadyH.nil
    go_simp
    refine hK.out _ _ hHeld (fun _ => ?_)
    clear hK K
    try simp only [Act.put, List.setIfInBounds_toArray, List.set_cons_zero, List.set_cons_succ]
    refine wpAnyH_take (i := 38) (oi := ⟨some 48, .pick (.tmp 40) (.tmp 47) (.const (.bool false)), 4, "check.go:258", #[⟨30, .data⟩, ⟨37, .data⟩], none⟩) (v := ?v38_13) rfl (by kernel_rfl) (by kernel_rfl) (by kernel_rfl) (fun _ _ _ h => h) (Or.inl ⟨by rfl, ?hy38_13⟩) hHeld ?rest38_13
    case hy38_13 => (intro W hSW; (try dsimp only at hSW); go_simp; try with_reducible rfl)
    try simp only [Act.put, List.setIfInBounds_toArray, List.set_cons_zero, List.set_cons_succ]
    refine wpAnyH_take (i := 39) (oi := ⟨some 4, .assign (.tmp 48), 4, "check.go:258", #[⟨38, .data⟩, ⟨37, .chain⟩, ⟨0, .phase⟩, ⟨1, .phase⟩, ⟨2, .phase⟩, ⟨3, .phase⟩, ⟨4, .phase⟩, ⟨5, .phase⟩, ⟨6, .phase⟩, ⟨7, .phase⟩, ⟨8, .phase⟩, ⟨9, .phase⟩, ⟨10, .phase⟩, ⟨11, .phase⟩, ⟨12, .phase⟩, ⟨13, .phase⟩, ⟨14, .phase⟩, ⟨15, .phase⟩, ⟨16, .phase⟩, ⟨17, .phase⟩, ⟨18, .phase⟩, ⟨19, .phase⟩, ⟨20, .phase⟩, ⟨21, .phase⟩, ⟨22, .phase⟩, ⟨23, .phase⟩, ⟨24, .phase⟩, ⟨25, .phase⟩, ⟨26, .phase⟩, ⟨27, .phase⟩, ⟨28, .phase⟩, ⟨29, .phase⟩, ⟨30, .phase⟩, ⟨31, .phase⟩, ⟨32, .phase⟩, ⟨33, .phase⟩, ⟨34, .phase⟩, ⟨35, .phase⟩, ⟨36, .phase⟩, ⟨37, .phase⟩, ⟨38, .phase⟩], none⟩) (v := ?v39_14) rfl (by kernel_rfl) (by kernel_rfl) (by kernel_rfl) (fun _ _ _ h => h) (Or.inl ⟨by rfl, ?hy39_14⟩) hHeld ?rest39_14
    case hy39_14 => (intro W hSW; (try dsimp only at hSW); go_simp; try with_reducible rfl)
    try simp only [Act.put, List.setIfInBounds_toArray, List.set_cons_zero, List.set_cons_succ]
    refine wpAnyH_done (by kernel_rfl) ?_ _
    have HS := Lib.hid hHeld
    clear hHeld
    go_wp2_with fail
    go_ret
    exact ⟨by rw [HO.out]; simp [*], HS.out.2.2.2.2.2.2.2⟩
  | true =>
    refine wpAnyH_take (i := 2) (oi := ⟨some 12, .binOp .eql 2 (.tmp 11) (.const (.int .i64 0)) 2, 4, "check.go:258", #[⟨1, .data⟩], none⟩) (v := ?v2_15) rfl (by kernel_rfl) (by kernel_rfl) (by kernel_rfl) (fun _ _ _ h => h) (Or.inl ⟨by rfl, ?hy2_15⟩) hHeld ?rest2_15
    case hy2_15 => (intro W hSW; (try dsimp only at hSW); go_simp; try with_reducible rfl)
    try simp only [Act.put, List.setIfInBounds_toArray, List.set_cons_zero, List.set_cons_succ]
    refine wpAnyH_take (i := 3) (oi := ⟨some 13, .move (.tmp 12), 4, "check.go:258", #[⟨2, .data⟩], none⟩) (v := ?v3_16) rfl (by kernel_rfl) (by kernel_rfl) (by kernel_rfl) (fun _ _ _ h => h) (Or.inl ⟨by rfl, ?hy3_16⟩) hHeld ?rest3_16
    case hy3_16 => (intro W hSW; (try dsimp only at hSW); go_simp; try with_reducible rfl)
    try simp only [Act.put, List.setIfInBounds_toArray, List.set_cons_zero, List.set_cons_succ]
    refine wpAnyH_take (i := 4) (oi := ⟨some 14, .fieldAddr 25 (.tmp 3) 3, 0, "check.go:258", #[⟨3, .guard⟩], some (3, true)⟩) (v := ?v4_17) rfl (by kernel_rfl) (by kernel_rfl) (by kernel_rfl) (fun _ _ _ h => h) (Or.inl ⟨by rfl, ?hy4_17⟩) hHeld ?rest4_17
    case hy4_17 => (intro W hSW; (try dsimp only at hSW); go_simp; try with_reducible rfl)
    try simp only [Act.put, List.setIfInBounds_toArray, List.set_cons_zero, List.set_cons_succ]
    refine wpAnyH_take (i := 5) (oi := ⟨some 15, .load 9 (.tmp 14), 9, "check.go:258", #[⟨4, .data⟩, ⟨3, .guard⟩], some (3, true)⟩) (v := ?v5_18) rfl (by kernel_rfl) (by kernel_rfl) (by kernel_rfl) (fun _ _ _ h => h) (Or.inl ⟨by rfl, ?hy5_18⟩) hHeld ?rest5_18
    case hy5_18 => (intro W hSW; (try dsimp only at hSW); go_simp; try with_reducible rfl)
    try simp only [Act.put, List.setIfInBounds_toArray, List.set_cons_zero, List.set_cons_succ]
    cases hfe : fd.toList.isEmpty with
    | false =>
      refine wpAnyH_take (i := 6) (oi := ⟨some 16, .binOp .eql 9 (.tmp 15) (.const (.string { data := #[] })) 9, 4, "check.go:258", #[⟨5, .data⟩, ⟨3, .guard⟩], some (3, true)⟩) (v := ?v6_19) rfl (by kernel_rfl) (by kernel_rfl) (by kernel_rfl) (fun _ _ _ h => h) (Or.inl ⟨by rfl, ?hy6_19⟩) hHeld ?rest6_19
      case hy6_19 => (intro W hSW; (try dsimp only at hSW); go_simp; try with_reducible rfl)
      try simp only [Act.put, List.setIfInBounds_toArray, List.set_cons_zero, List.set_cons_succ]
      refine wpAnyH_take (i := 7) (oi := ⟨some 17, .pick (.tmp 13) (.tmp 16) (.const (.bool false)), 4, "check.go:258", #[⟨3, .data⟩, ⟨6, .data⟩], none⟩) (v := ?v7_20) rfl (by kernel_rfl) (by kernel_rfl) (by kernel_rfl) (fun _ _ _ h => h) (Or.inl ⟨by rfl, ?hy7_20⟩) hHeld ?rest7_20
      case hy7_20 => (intro W hSW; (try dsimp only at hSW); go_simp; try with_reducible rfl)
      try simp only [Act.put, List.setIfInBounds_toArray, List.set_cons_zero, List.set_cons_succ]
      refine wpAnyH_take (i := 8) (oi := ⟨some 18, .move (.tmp 17), 4, "check.go:258", #[⟨7, .data⟩, ⟨3, .chain⟩], none⟩) (v := ?v8_21) rfl (by kernel_rfl) (by kernel_rfl) (by kernel_rfl) (fun _ _ _ h => h) (Or.inl ⟨by rfl, ?hy8_21⟩) hHeld ?rest8_21
      case hy8_21 => (intro W hSW; (try dsimp only at hSW); go_simp; try with_reducible rfl)
      try simp only [Act.put, List.setIfInBounds_toArray, List.set_cons_zero, List.set_cons_succ]
      refine wpAnyH_take (i := 9) (oi := ⟨some 19, .load 140 (.tmp 2), 140, "check.go:258", #[⟨8, .guard⟩], some (8, true)⟩) (v := undef) rfl (by kernel_rfl) (by kernel_rfl) (by kernel_rfl) (fun _ _ _ h => h) (Or.inr ⟨by rfl, rfl⟩) hHeld ?_
      try simp only [Act.put, List.setIfInBounds_toArray, List.set_cons_zero, List.set_cons_succ]
      refine wpAnyH_take (i := 10) (oi := ⟨some 20, .fieldAddr 25 (.tmp 3) 2, 0, "check.go:258", #[⟨8, .guard⟩], some (8, true)⟩) (v := undef) rfl (by kernel_rfl) (by kernel_rfl) (by kernel_rfl) (fun _ _ _ h => h) (Or.inr ⟨by rfl, rfl⟩) hHeld ?_
      try simp only [Act.put, List.setIfInBounds_toArray, List.set_cons_zero, List.set_cons_succ]
      refine wpAnyH_take (i := 11) (oi := ⟨some 21, .load 9 (.tmp 20), 9, "check.go:258", #[⟨10, .data⟩, ⟨8, .guard⟩], some (8, true)⟩) (v := undef) rfl (by kernel_rfl) (by kernel_rfl) (by kernel_rfl) (fun _ _ _ h => h) (Or.inr ⟨by rfl, rfl⟩) hHeld ?_
      try simp only [Act.put, List.setIfInBounds_toArray, List.set_cons_zero, List.set_cons_succ]
      refine wpAnyH_ready (rs := [12]) (by kernel_rfl) (by simp) ?_
      refine AllReadyH.cons (o := ⟨some 22, .call { callee := .value (.func 173), args := #[.tmp 19, .tmp 21], argTypes := #[140, 9] }, 4, "check.go:258", #[⟨9, .data⟩, ⟨11, .data⟩, ⟨8, .chain⟩, ⟨8, .guard⟩], some (8, true)⟩) rfl (fun K hK => ?_) AllReadyH.nil
      go_simp
      refine hK.out _ _ hHeld (fun _ => ?_)
      clear hK K
      try simp only [Act.put, List.setIfInBounds_toArray, List.set_cons_zero, List.set_cons_succ]
      refine wpAnyH_take (i := 13) (oi := ⟨some 23, .pick (.tmp 18) (.tmp 22) (.const (.bool false)), 4, "check.go:258", #[⟨8, .data⟩, ⟨12, .data⟩], none⟩) (v := ?v13_22) rfl (by kernel_rfl) (by kernel_rfl) (by kernel_rfl) (fun _ _ _ h => h) (Or.inl ⟨by rfl, ?hy13_22⟩) hHeld ?rest13_22
      case hy13_22 => (intro W hSW; (try dsimp only at hSW); go_simp; try with_reducible rfl)
      try simp only [Act.put, List.setIfInBounds_toArray, List.set_cons_zero, List.set_cons_succ]
      refine wpAnyH_take (i := 14) (oi := ⟨some 24, .move (.tmp 23), 4, "check.go:258", #[⟨13, .data⟩, ⟨12, .chain⟩], none⟩) (v := ?v14_23) rfl (by kernel_rfl) (by kernel_rfl) (by kernel_rfl) (fun _ _ _ h => h) (Or.inl ⟨by rfl, ?hy14_23⟩) hHeld ?rest14_23
      case hy14_23 => (intro W hSW; (try dsimp only at hSW); go_simp; try with_reducible rfl)
      try simp only [Act.put, List.setIfInBounds_toArray, List.set_cons_zero, List.set_cons_succ]
      refine wpAnyH_take (i := 15) (oi := ⟨some 25, .fieldAddr 25 (.tmp 3) 4, 0, "check.go:258", #[⟨14, .guard⟩], some (14, true)⟩) (v := undef) rfl (by kernel_rfl) (by kernel_rfl) (by kernel_rfl) (fun _ _ _ h => h) (Or.inr ⟨by rfl, rfl⟩) hHeld ?_
      try simp only [Act.put, List.setIfInBounds_toArray, List.set_cons_zero, List.set_cons_succ]
      refine wpAnyH_take (i := 16) (oi := ⟨some 26, .load 23 (.tmp 25), 23, "check.go:258", #[⟨15, .data⟩, ⟨14, .guard⟩], some (14, true)⟩) (v := undef) rfl (by kernel_rfl) (by kernel_rfl) (by kernel_rfl) (fun _ _ _ h => h) (Or.inr ⟨by rfl, rfl⟩) hHeld ?_
      try simp only [Act.put, List.setIfInBounds_toArray, List.set_cons_zero, List.set_cons_succ]
      refine wpAnyH_take (i := 17) (oi := ⟨some 27, .call { callee := .builtin .len, args := #[.tmp 26], argTypes := #[23] }, 3, "check.go:258", #[⟨16, .data⟩, ⟨14, .guard⟩], some (14, true)⟩) (v := undef) rfl (by kernel_rfl) (by kernel_rfl) (by kernel_rfl) (fun _ _ _ h => h) (Or.inr ⟨by rfl, rfl⟩) hHeld ?_
      try simp only [Act.put, List.setIfInBounds_toArray, List.set_cons_zero, List.set_cons_succ]
      refine wpAnyH_take (i := 18) (oi := ⟨some 28, .binOp .leq 3 (.tmp 27) (.const (.int .i64 512)) 3, 4, "check.go:258", #[⟨17, .data⟩, ⟨14, .guard⟩], some (14, true)⟩) (v := undef) rfl (by kernel_rfl) (by kernel_rfl) (by kernel_rfl) (fun _ _ _ h => h) (Or.inr ⟨by rfl, rfl⟩) hHeld ?_
      try simp only [Act.put, List.setIfInBounds_toArray, List.set_cons_zero, List.set_cons_succ]
      refine wpAnyH_take (i := 19) (oi := ⟨some 29, .pick (.tmp 24) (.tmp 28) (.const (.bool false)), 4, "check.go:258", #[⟨14, .data⟩, ⟨18, .data⟩], none⟩) (v := ?v19_24) rfl (by kernel_rfl) (by kernel_rfl) (by kernel_rfl) (fun _ _ _ h => h) (Or.inl ⟨by rfl, ?hy19_24⟩) hHeld ?rest19_24
      case hy19_24 => (intro W hSW; (try dsimp only at hSW); go_simp; try with_reducible rfl)
      try simp only [Act.put, List.setIfInBounds_toArray, List.set_cons_zero, List.set_cons_succ]
      refine wpAnyH_take (i := 20) (oi := ⟨some 30, .move (.tmp 29), 4, "check.go:258", #[⟨19, .data⟩, ⟨14, .chain⟩], none⟩) (v := ?v20_25) rfl (by kernel_rfl) (by kernel_rfl) (by kernel_rfl) (fun _ _ _ h => h) (Or.inl ⟨by rfl, ?hy20_25⟩) hHeld ?rest20_25
      case hy20_25 => (intro W hSW; (try dsimp only at hSW); go_simp; try with_reducible rfl)
      try simp only [Act.put, List.setIfInBounds_toArray, List.set_cons_zero, List.set_cons_succ]
      refine wpAnyH_take (i := 21) (oi := ⟨some 31, .fieldAddr 25 (.tmp 3) 4, 0, "check.go:258", #[⟨20, .guard⟩], some (20, true)⟩) (v := undef) rfl (by kernel_rfl) (by kernel_rfl) (by kernel_rfl) (fun _ _ _ h => h) (Or.inr ⟨by rfl, rfl⟩) hHeld ?_
      try simp only [Act.put, List.setIfInBounds_toArray, List.set_cons_zero, List.set_cons_succ]
      refine wpAnyH_take (i := 22) (oi := ⟨some 32, .load 23 (.tmp 31), 23, "check.go:258", #[⟨21, .data⟩, ⟨20, .guard⟩], some (20, true)⟩) (v := undef) rfl (by kernel_rfl) (by kernel_rfl) (by kernel_rfl) (fun _ _ _ h => h) (Or.inr ⟨by rfl, rfl⟩) hHeld ?_
      try simp only [Act.put, List.setIfInBounds_toArray, List.set_cons_zero, List.set_cons_succ]
      refine wpAnyH_take (i := 23) (oi := ⟨some 33, .move (.tmp 5), 3, "check.go:258", #[⟨20, .guard⟩], some (20, true)⟩) (v := undef) rfl (by kernel_rfl) (by kernel_rfl) (by kernel_rfl) (fun _ _ _ h => h) (Or.inr ⟨by rfl, rfl⟩) hHeld ?_
      try simp only [Act.put, List.setIfInBounds_toArray, List.set_cons_zero, List.set_cons_succ]
      refine wpAnyH_take (i := 24) (oi := ⟨some 34, .slice 23 (.tmp 32) none (some (.tmp 33)) none, 23, "check.go:258", #[⟨22, .data⟩, ⟨23, .data⟩, ⟨20, .guard⟩], some (20, true)⟩) (v := undef) rfl (by kernel_rfl) (by kernel_rfl) (by kernel_rfl) (fun _ _ _ h => h) (Or.inr ⟨by rfl, rfl⟩) hHeld ?_
      try simp only [Act.put, List.setIfInBounds_toArray, List.set_cons_zero, List.set_cons_succ]
      refine wpAnyH_take (i := 25) (oi := ⟨some 35, .load 140 (.tmp 2), 140, "check.go:258", #[⟨20, .guard⟩], some (20, true)⟩) (v := undef) rfl (by kernel_rfl) (by kernel_rfl) (by kernel_rfl) (fun _ _ _ h => h) (Or.inr ⟨by rfl, rfl⟩) hHeld ?_
      try simp only [Act.put, List.setIfInBounds_toArray, List.set_cons_zero, List.set_cons_succ]
      refine wpAnyH_ready (rs := [26]) (by kernel_rfl) (by simp) ?_
      refine AllReadyH.cons (o := ⟨some 36, .call { callee := .value (.func 144), args := #[.tmp 35], argTypes := #[140] }, 140, "check.go:259", #[⟨25, .data⟩, ⟨20, .chain⟩, ⟨20, .guard⟩], some (20, true)⟩) rfl (fun K hK => ?_) AllReadyH.nil
      go_simp
      refine hK.out _ _ hHeld (fun _ => ?_)
      clear hK K
      try simp only [Act.put, List.setIfInBounds_toArray, List.set_cons_zero, List.set_cons_succ]
      refine wpAnyH_ready (rs := [27]) (by kernel_rfl) (by simp) ?_
      refine AllReadyH.cons (o := ⟨some 37, .makeFunc (.func 91) #[.tmp 36] #[], 40, "check.go:258", #[⟨26, .data⟩, ⟨20, .guard⟩], some (20, true)⟩) rfl (fun K hK => ?_) AllReadyH.nil
      go_simp
      refine hK.out _ _ hHeld (fun _ => ?_)
      clear hK K
      try simp only [Act.put, List.setIfInBounds_toArray, List.set_cons_zero, List.set_cons_succ]
      refine wpAnyH_ready (rs := [28]) (by kernel_rfl) (by simp) ?_
      refine AllReadyH.cons (o := ⟨some 38, .call { callee := .value (.func 143), args := #[.tmp 34, .tmp 37], argTypes := #[23, 40] }, 4, "check.go:259", #[⟨24, .data⟩, ⟨27, .data⟩, ⟨26, .chain⟩, ⟨20, .guard⟩], some (20, true)⟩) rfl (fun K hK => ?_) AllReadyH.nil
      go_simp
      refine hK.out _ _ hHeld (fun _ => ?_)
      clear hK K
      try simp only [Act.put, List.setIfInBounds_toArray, List.set_cons_zero, List.set_cons_succ]
      refine wpAnyH_take (i := 29) (oi := ⟨some 39, .pick (.tmp 30) (.tmp 38) (.const (.bool false)), 4, "check.go:258", #[⟨20, .data⟩, ⟨28, .data⟩], none⟩) (v := ?v29_26) rfl (by kernel_rfl) (by kernel_rfl) (by kernel_rfl) (fun _ _ _ h => h) (Or.inl ⟨by rfl, ?hy29_26⟩) hHeld ?rest29_26
      case hy29_26 => (intro W hSW; (try dsimp only at hSW); go_simp; try with_reducible rfl)
      try simp only [Act.put, List.setIfInBounds_toArray, List.set_cons_zero, List.set_cons_succ]
      refine wpAnyH_take (i := 30) (oi := ⟨some 40, .move (.tmp 39), 4, "check.go:258", #[⟨29, .data⟩, ⟨28, .chain⟩], none⟩) (v := ?v30_27) rfl (by kernel_rfl) (by kernel_rfl) (by kernel_rfl) (fun _ _ _ h => h) (Or.inl ⟨by rfl, ?hy30_27⟩) hHeld ?rest30_27
      case hy30_27 => (intro W hSW; (try dsimp only at hSW); go_simp; try with_reducible rfl)
      try simp only [Act.put, List.setIfInBounds_toArray, List.set_cons_zero, List.set_cons_succ]
      refine wpAnyH_take (i := 31) (oi := ⟨some 41, .fieldAddr 25 (.tmp 3) 4, 0, "check.go:258", #[⟨30, .guard⟩], some (30, true)⟩) (v := undef) rfl (by kernel_rfl) (by kernel_rfl) (by kernel_rfl) (fun _ _ _ h => h) (Or.inr ⟨by rfl, rfl⟩) hHeld ?_
      try simp only [Act.put, List.setIfInBounds_toArray, List.set_cons_zero, List.set_cons_succ]
      refine wpAnyH_take (i := 32) (oi := ⟨some 42, .load 23 (.tmp 41), 23, "check.go:258", #[⟨31, .data⟩, ⟨30, .guard⟩], some (30, true)⟩) (v := undef) rfl (by kernel_rfl) (by kernel_rfl) (by kernel_rfl) (fun _ _ _ h => h) (Or.inr ⟨by rfl, rfl⟩) hHeld ?_
      try simp only [Act.put, List.setIfInBounds_toArray, List.set_cons_zero, List.set_cons_succ]
      refine wpAnyH_take (i := 33) (oi := ⟨some 43, .move (.tmp 5), 3, "check.go:258", #[⟨30, .guard⟩], some (30, true)⟩) (v := undef) rfl (by kernel_rfl) (by kernel_rfl) (by kernel_rfl) (fun _ _ _ h => h) (Or.inr ⟨by rfl, rfl⟩) hHeld ?_
      try simp only [Act.put, List.setIfInBounds_toArray, List.set_cons_zero, List.set_cons_succ]
      refine wpAnyH_take (i := 34) (oi := ⟨some 44, .slice 23 (.tmp 42) (some (.tmp 43)) none none, 23, "check.go:258", #[⟨32, .data⟩, ⟨33, .data⟩, ⟨30, .guard⟩], some (30, true)⟩) (v := undef) rfl (by kernel_rfl) (by kernel_rfl) (by kernel_rfl) (fun _ _ _ h => h) (Or.inr ⟨by rfl, rfl⟩) hHeld ?_
      try simp only [Act.put, List.setIfInBounds_toArray, List.set_cons_zero, List.set_cons_succ]
      refine wpAnyH_take (i := 35) (oi := ⟨some 45, .load 140 (.tmp 2), 140, "check.go:258", #[⟨30, .guard⟩], some (30, true)⟩) (v := undef) rfl (by kernel_rfl) (by kernel_rfl) (by kernel_rfl) (fun _ _ _ h => h) (Or.inr ⟨by rfl, rfl⟩) hHeld ?_
      try simp only [Act.put, List.setIfInBounds_toArray, List.set_cons_zero, List.set_cons_succ]
      refine wpAnyH_ready (rs := [36]) (by kernel_rfl) (by simp) ?_
      refine AllReadyH.cons (o := ⟨some 46, .makeFunc (.func 174) #[.tmp 45] #[], 40, "check.go:258", #[⟨35, .data⟩, ⟨30, .guard⟩], some (30, true)⟩) rfl (fun K hK => ?_) AllReadyH.nil
      go_simp
      refine hK.out _ _ hHeld (fun _ => ?_)
      clear hK K
      try simp only [Act.put, List.setIfInBounds_toArray, List.set_cons_zero, List.set_cons_succ]
      refine wpAnyH_ready (rs := [37]) (by kernel_rfl) (by simp) ?_
      refine AllReadyH.cons (o := ⟨some 47, .call { callee := .value (.func 143), args := #[.tmp 44, .tmp 46], argTypes := #[23, 40] }, 4, "check.go:259", #[⟨34, .data⟩, ⟨36, .data⟩, ⟨30, .chain⟩, ⟨30, .guard⟩], some (30, true)⟩) rfl (fun K hK => ?_) AllReadyH.nil
      go_simp
      refine hK.out _ _ hHeld (fun _ => ?_)
      clear hK K
      try simp only [Act.put, List.setIfInBounds_toArray, List.set_cons_zero, List.set_cons_succ]
      refine wpAnyH_take (i := 38) (oi := ⟨some 48, .pick (.tmp 40) (.tmp 47) (.const (.bool false)), 4, "check.go:258", #[⟨30, .data⟩, ⟨37, .data⟩], none⟩) (v := ?v38_28) rfl (by kernel_rfl) (by kernel_rfl) (by kernel_rfl) (fun _ _ _ h => h) (Or.inl ⟨by rfl, ?hy38_28⟩) hHeld ?rest38_28
      case hy38_28 => (intro W hSW; (try dsimp only at hSW); go_simp; try with_reducible rfl)
      try simp only [Act.put, List.setIfInBounds_toArray, List.set_cons_zero, List.set_cons_succ]
      refine wpAnyH_take (i := 39) (oi := ⟨some 4, .assign (.tmp 48), 4, "check.go:258", #[⟨38, .data⟩, ⟨37, .chain⟩, ⟨0, .phase⟩, ⟨1, .phase⟩, ⟨2, .phase⟩, ⟨3, .phase⟩, ⟨4, .phase⟩, ⟨5, .phase⟩, ⟨6, .phase⟩, ⟨7, .phase⟩, ⟨8, .phase⟩, ⟨9, .phase⟩, ⟨10, .phase⟩, ⟨11, .phase⟩, ⟨12, .phase⟩, ⟨13, .phase⟩, ⟨14, .phase⟩, ⟨15, .phase⟩, ⟨16, .phase⟩, ⟨17, .phase⟩, ⟨18, .phase⟩, ⟨19, .phase⟩, ⟨20, .phase⟩, ⟨21, .phase⟩, ⟨22, .phase⟩, ⟨23, .phase⟩, ⟨24, .phase⟩, ⟨25, .phase⟩, ⟨26, .phase⟩, ⟨27, .phase⟩, ⟨28, .phase⟩, ⟨29, .phase⟩, ⟨30, .phase⟩, ⟨31, .phase⟩, ⟨32, .phase⟩, ⟨33, .phase⟩, ⟨34, .phase⟩, ⟨35, .phase⟩, ⟨36, .phase⟩, ⟨37, .phase⟩, ⟨38, .phase⟩], none⟩) (v := ?v39_29) rfl (by kernel_rfl) (by kernel_rfl) (by kernel_rfl) (fun _ _ _ h => h) (Or.inl ⟨by rfl, ?hy39_29⟩) hHeld ?rest39_29
      case hy39_29 => (intro W hSW; (try dsimp only at hSW); go_simp; try with_reducible rfl)
      try simp only [Act.put, List.setIfInBounds_toArray, List.set_cons_zero, List.set_cons_succ]
      refine wpAnyH_done (by kernel_rfl) ?_ _
      have HS := Lib.hid hHeld
      clear hHeld
      go_wp2_with fail
      go_ret
      exact ⟨by rw [HO.out]; simp [*], HS.out.2.2.2.2.2.2.2⟩
    | true =>
      refine wpAnyH_take (i := 6) (oi := ⟨some 16, .binOp .eql 9 (.tmp 15) (.const (.string { data := #[] })) 9, 4, "check.go:258", #[⟨5, .data⟩, ⟨3, .guard⟩], some (3, true)⟩) (v := ?v6_30) rfl (by kernel_rfl) (by kernel_rfl) (by kernel_rfl) (fun _ _ _ h => h) (Or.inl ⟨by rfl, ?hy6_30⟩) hHeld ?rest6_30
      case hy6_30 => (intro W hSW; (try dsimp only at hSW); go_simp; try with_reducible rfl)
      try simp only [Act.put, List.setIfInBounds_toArray, List.set_cons_zero, List.set_cons_succ]
      refine wpAnyH_take (i := 7) (oi := ⟨some 17, .pick (.tmp 13) (.tmp 16) (.const (.bool false)), 4, "check.go:258", #[⟨3, .data⟩, ⟨6, .data⟩], none⟩) (v := ?v7_31) rfl (by kernel_rfl) (by kernel_rfl) (by kernel_rfl) (fun _ _ _ h => h) (Or.inl ⟨by rfl, ?hy7_31⟩) hHeld ?rest7_31
      case hy7_31 => (intro W hSW; (try dsimp only at hSW); go_simp; try with_reducible rfl)
      try simp only [Act.put, List.setIfInBounds_toArray, List.set_cons_zero, List.set_cons_succ]
      refine wpAnyH_take (i := 8) (oi := ⟨some 18, .move (.tmp 17), 4, "check.go:258", #[⟨7, .data⟩, ⟨3, .chain⟩], none⟩) (v := ?v8_32) rfl (by kernel_rfl) (by kernel_rfl) (by kernel_rfl) (fun _ _ _ h => h) (Or.inl ⟨by rfl, ?hy8_32⟩) hHeld ?rest8_32
      case hy8_32 => (intro W hSW; (try dsimp only at hSW); go_simp; try with_reducible rfl)
      try simp only [Act.put, List.setIfInBounds_toArray, List.set_cons_zero, List.set_cons_succ]
      refine wpAnyH_take (i := 9) (oi := ⟨some 19, .load 140 (.tmp 2), 140, "check.go:258", #[⟨8, .guard⟩], some (8, true)⟩) (v := ?v9_33) rfl (by kernel_rfl) (by kernel_rfl) (by kernel_rfl) (fun _ _ _ h => h) (Or.inl ⟨by rfl, ?hy9_33⟩) hHeld ?rest9_33
      case hy9_33 => (intro W hSW; (try dsimp only at hSW); go_simp; try with_reducible rfl)
      try simp only [Act.put, List.setIfInBounds_toArray, List.set_cons_zero, List.set_cons_succ]
      refine wpAnyH_take (i := 10) (oi := ⟨some 20, .fieldAddr 25 (.tmp 3) 2, 0, "check.go:258", #[⟨8, .guard⟩], some (8, true)⟩) (v := ?v10_34) rfl (by kernel_rfl) (by kernel_rfl) (by kernel_rfl) (fun _ _ _ h => h) (Or.inl ⟨by rfl, ?hy10_34⟩) hHeld ?rest10_34
      case hy10_34 => (intro W hSW; (try dsimp only at hSW); go_simp; try with_reducible rfl)
      try simp only [Act.put, List.setIfInBounds_toArray, List.set_cons_zero, List.set_cons_succ]
      refine wpAnyH_take (i := 11) (oi := ⟨some 21, .load 9 (.tmp 20), 9, "check.go:258", #[⟨10, .data⟩, ⟨8, .guard⟩], some (8, true)⟩) (v := ?v11_35) rfl (by kernel_rfl) (by kernel_rfl) (by kernel_rfl) (fun _ _ _ h => h) (Or.inl ⟨by rfl, ?hy11_35⟩) hHeld ?rest11_35
      case hy11_35 => (intro W hSW; (try dsimp only at hSW); go_simp; try with_reducible rfl)
      try simp only [Act.put, List.setIfInBounds_toArray, List.set_cons_zero, List.set_cons_succ]
      cases rn with
      | false =>
        refine wpAnyH_ready (rs := [12]) (by kernel_rfl) (by simp) ?_
        refine AllReadyH.cons (o := ⟨some 22, .call { callee := .value (.func 173), args := #[.tmp 19, .tmp 21], argTypes := #[140, 9] }, 4, "check.go:258", #[⟨9, .data⟩, ⟨11, .data⟩, ⟨8, .chain⟩, ⟨8, .guard⟩], some (8, true)⟩) rfl (fun K hK => ?_) AllReadyH.nil
        go_simp
        go_at_call 173
        refine (RN.out _ hHeld).mono ?_
        rintro e w7 ⟨rfl, s7⟩
        clear hHeld
        have hHeld := s7
        clear s7
        refine hK.out _ _ hHeld (fun _ => ?_)
        clear hK K
        try simp only [Act.put, List.setIfInBounds_toArray, List.set_cons_zero, List.set_cons_succ]
        refine wpAnyH_take (i := 13) (oi := ⟨some 23, .pick (.tmp 18) (.tmp 22) (.const (.bool false)), 4, "check.go:258", #[⟨8, .data⟩, ⟨12, .data⟩], none⟩) (v := ?v13_36) rfl (by kernel_rfl) (by kernel_rfl) (by kernel_rfl) (fun _ _ _ h => h) (Or.inl ⟨by rfl, ?hy13_36⟩) hHeld ?rest13_36
        case hy13_36 => (intro W hSW; (try dsimp only at hSW); go_simp; try with_reducible rfl)
        try simp only [Act.put, List.setIfInBounds_toArray, List.set_cons_zero, List.set_cons_succ]
        refine wpAnyH_take (i := 14) (oi := ⟨some 24, .move (.tmp 23), 4, "check.go:258", #[⟨13, .data⟩, ⟨12, .chain⟩], none⟩) (v := ?v14_37) rfl (by kernel_rfl) (by kernel_rfl) (by kernel_rfl) (fun _ _ _ h => h) (Or.inl ⟨by rfl, ?hy14_37⟩) hHeld ?rest14_37
        case hy14_37 => (intro W hSW; (try dsimp only at hSW); go_simp; try with_reducible rfl)
        try simp only [Act.put, List.setIfInBounds_toArray, List.set_cons_zero, List.set_cons_succ]
        refine wpAnyH_take (i := 15) (oi := ⟨some 25, .fieldAddr 25 (.tmp 3) 4, 0, "check.go:258", #[⟨14, .guard⟩], some (14, true)⟩) (v := undef) rfl (by kernel_rfl) (by kernel_rfl) (by kernel_rfl) (fun _ _ _ h => h) (Or.inr ⟨by rfl, rfl⟩) hHeld ?_
        try simp only [Act.put, List.setIfInBounds_toArray, List.set_cons_zero, List.set_cons_succ]
        refine wpAnyH_take (i := 16) (oi := ⟨some 26, .load 23 (.tmp 25), 23, "check.go:258", #[⟨15, .data⟩, ⟨14, .guard⟩], some (14, true)⟩) (v := undef) rfl (by kernel_rfl) (by kernel_rfl) (by kernel_rfl) (fun _ _ _ h => h) (Or.inr ⟨by rfl, rfl⟩) hHeld ?_
        try simp only [Act.put, List.setIfInBounds_toArray, List.set_cons_zero, List.set_cons_succ]
        refine wpAnyH_take (i := 17) (oi := ⟨some 27, .call { callee := .builtin .len, args := #[.tmp 26], argTypes := #[23] }, 3, "check.go:258", #[⟨16, .data⟩, ⟨14, .guard⟩], some (14, true)⟩) (v := undef) rfl (by kernel_rfl) (by kernel_rfl) (by kernel_rfl) (fun _ _ _ h => h) (Or.inr ⟨by rfl, rfl⟩) hHeld ?_
        try simp only [Act.put, List.setIfInBounds_toArray, List.set_cons_zero, List.set_cons_succ]
        refine wpAnyH_take (i := 18) (oi := ⟨some 28, .binOp .leq 3 (.tmp 27) (.const (.int .i64 512)) 3, 4, "check.go:258", #[⟨17, .data⟩, ⟨14, .guard⟩], some (14, true)⟩) (v := undef) rfl (by kernel_rfl) (by kernel_rfl) (by kernel_rfl) (fun _ _ _ h => h) (Or.inr ⟨by rfl, rfl⟩) hHeld ?_
        try simp only [Act.put, List.setIfInBounds_toArray, List.set_cons_zero, List.set_cons_succ]
        refine wpAnyH_take (i := 19) (oi := ⟨some 29, .pick (.tmp 24) (.tmp 28) (.const (.bool false)), 4, "check.go:258", #[⟨14, .data⟩, ⟨18, .data⟩], none⟩) (v := ?v19_38) rfl (by kernel_rfl) (by kernel_rfl) (by kernel_rfl) (fun _ _ _ h => h) (Or.inl ⟨by rfl, ?hy19_38⟩) hHeld ?rest19_38
        case hy19_38 => (intro W hSW; (try dsimp only at hSW); go_simp; try with_reducible rfl)
        try simp only [Act.put, List.setIfInBounds_toArray, List.set_cons_zero, List.set_cons_succ]
        refine wpAnyH_take (i := 20) (oi := ⟨some 30, .move (.tmp 29), 4, "check.go:258", #[⟨19, .data⟩, ⟨14, .chain⟩], none⟩) (v := ?v20_39) rfl (by kernel_rfl) (by kernel_rfl) (by kernel_rfl) (fun _ _ _ h => h) (Or.inl ⟨by rfl, ?hy20_39⟩) hHeld ?rest20_39
        case hy20_39 => (intro W hSW; (try dsimp only at hSW); go_simp; try with_reducible rfl)
        try simp only [Act.put, List.setIfInBounds_toArray, List.set_cons_zero, List.set_cons_succ]
        refine wpAnyH_take (i := 21) (oi := ⟨some 31, .fieldAddr 25 (.tmp 3) 4, 0, "check.go:258", #[⟨20, .guard⟩], some (20, true)⟩) (v := undef) rfl (by kernel_rfl) (by kernel_rfl) (by kernel_rfl) (fun _ _ _ h => h) (Or.inr ⟨by rfl, rfl⟩) hHeld ?_
        try simp only [Act.put, List.setIfInBounds_toArray, List.set_cons_zero, List.set_cons_succ]
        refine wpAnyH_take (i := 22) (oi := ⟨some 32, .load 23 (.tmp 31), 23, "check.go:258", #[⟨21, .data⟩, ⟨20, .guard⟩], some (20, true)⟩) (v := undef) rfl (by kernel_rfl) (by kernel_rfl) (by kernel_rfl) (fun _ _ _ h => h) (Or.inr ⟨by rfl, rfl⟩) hHeld ?_
        try simp only [Act.put, List.setIfInBounds_toArray, List.set_cons_zero, List.set_cons_succ]
        refine wpAnyH_take (i := 23) (oi := ⟨some 33, .move (.tmp 5), 3, "check.go:258", #[⟨20, .guard⟩], some (20, true)⟩) (v := undef) rfl (by kernel_rfl) (by kernel_rfl) (by kernel_rfl) (fun _ _ _ h => h) (Or.inr ⟨by rfl, rfl⟩) hHeld ?_
        try simp only [Act.put, List.setIfInBounds_toArray, List.set_cons_zero, List.set_cons_succ]
        refine wpAnyH_take (i := 24) (oi := ⟨some 34, .slice 23 (.tmp 32) none (some (.tmp 33)) none, 23, "check.go:258", #[⟨22, .data⟩, ⟨23, .data⟩, ⟨20, .guard⟩], some (20, true)⟩) (v := undef) rfl (by kernel_rfl) (by kernel_rfl) (by kernel_rfl) (fun _ _ _ h => h) (Or.inr ⟨by rfl, rfl⟩) hHeld ?_
        try simp only [Act.put, List.setIfInBounds_toArray, List.set_cons_zero, List.set_cons_succ]
        refine wpAnyH_take (i := 25) (oi := ⟨some 35, .load 140 (.tmp 2), 140, "check.go:258", #[⟨20, .guard⟩], some (20, true)⟩) (v := undef) rfl (by kernel_rfl) (by kernel_rfl) (by kernel_rfl) (fun _ _ _ h => h) (Or.inr ⟨by rfl, rfl⟩) hHeld ?_
        try simp only [Act.put, List.setIfInBounds_toArray, List.set_cons_zero, List.set_cons_succ]
        refine wpAnyH_ready (rs := [26]) (by kernel_rfl) (by simp) ?_
        refine AllReadyH.cons (o := ⟨some 36, .call { callee := .value (.func 144), args := #[.tmp 35], argTypes := #[140] }, 140, "check.go:259", #[⟨25, .data⟩, ⟨20, .chain⟩, ⟨20, .guard⟩], some (20, true)⟩) rfl (fun K hK => ?_) AllReadyH.nil
        go_simp
        refine hK.out _ _ hHeld (fun _ => ?_)
        clear hK K
        try simp only [Act.put, List.setIfInBounds_toArray, List.set_cons_zero, List.set_cons_succ]
        refine wpAnyH_ready (rs := [27]) (by kernel_rfl) (by simp) ?_
        refine AllReadyH.cons (o := ⟨some 37, .makeFunc (.func 91) #[.tmp 36] #[], 40, "check.go:258", #[⟨26, .data⟩, ⟨20, .guard⟩], some (20, true)⟩) rfl (fun K hK => ?_) AllReadyH.nil
        go_simp
        refine hK.out _ _ hHeld (fun _ => ?_)
        clear hK K
        try simp only [Act.put, List.setIfInBounds_toArray, List.set_cons_zero, List.set_cons_succ]
        refine wpAnyH_ready (rs := [28]) (by kernel_rfl) (by simp) ?_
        refine AllReadyH.cons (o := ⟨some 38, .call { callee := .value (.func 143), args := #[.tmp 34, .tmp 37], argTypes := #[23, 40] }, 4, "check.go:259", #[⟨24, .data⟩, ⟨27, .data⟩, ⟨26, .chain⟩, ⟨20, .guard⟩], some (20, true)⟩) rfl (fun K hK => ?_) AllReadyH.nil
        go_simp
        refine hK.out _ _ hHeld (fun _ => ?_)
        clear hK K
        try simp only [Act.put, List.setIfInBounds_toArray, List.set_cons_zero, List.set_cons_succ]
        refine wpAnyH_take (i := 29) (oi := ⟨some 39, .pick (.tmp 30) (.tmp 38) (.const (.bool false)), 4, "check.go:258", #[⟨20, .data⟩, ⟨28, .data⟩], none⟩) (v := ?v29_40) rfl (by kernel_rfl) (by kernel_rfl) (by kernel_rfl) (fun _ _ _ h => h) (Or.inl ⟨by rfl, ?hy29_40⟩) hHeld ?rest29_40
        case hy29_40 => (intro W hSW; (try dsimp only at hSW); go_simp; try with_reducible rfl)
        try simp only [Act.put, List.setIfInBounds_toArray, List.set_cons_zero, List.set_cons_succ]
        refine wpAnyH_take (i := 30) (oi := ⟨some 40, .move (.tmp 39), 4, "check.go:258", #[⟨29, .data⟩, ⟨28, .chain⟩], none⟩) (v := ?v30_41) rfl (by kernel_rfl) (by kernel_rfl) (by kernel_rfl) (fun _ _ _ h => h) (Or.inl ⟨by rfl, ?hy30_41⟩) hHeld ?rest30_41
        case hy30_41 => (intro W hSW; (try dsimp only at hSW); go_simp; try with_reducible rfl)
        try simp only [Act.put, List.setIfInBounds_toArray, List.set_cons_zero, List.set_cons_succ]
        refine wpAnyH_take (i := 31) (oi := ⟨some 41, .fieldAddr 25 (.tmp 3) 4, 0, "check.go:258", #[⟨30, .guard⟩], some (30, true)⟩) (v := undef) rfl (by kernel_rfl) (by kernel_rfl) (by kernel_rfl) (fun _ _ _ h => h) (Or.inr ⟨by rfl, rfl⟩) hHeld ?_
        try simp only [Act.put, List.setIfInBounds_toArray, List.set_cons_zero, List.set_cons_succ]
        refine wpAnyH_take (i := 32) (oi := ⟨some 42, .load 23 (.tmp 41), 23, "check.go:258", #[⟨31, .data⟩, ⟨30, .guard⟩], some (30, true)⟩) (v := undef) rfl (by kernel_rfl) (by kernel_rfl) (by kernel_rfl) (fun _ _ _ h => h) (Or.inr ⟨by rfl, rfl⟩) hHeld ?_
        try simp only [Act.put, List.setIfInBounds_toArray, List.set_cons_zero, List.set_cons_succ]
        refine wpAnyH_take (i := 33) (oi := ⟨some 43, .move (.tmp 5), 3, "check.go:258", #[⟨30, .guard⟩], some (30, true)⟩) (v := undef) rfl (by kernel_rfl) (by kernel_rfl) (by kernel_rfl) (fun _ _ _ h => h) (Or.inr ⟨by rfl, rfl⟩) hHeld ?_
        try simp only [Act.put, List.setIfInBounds_toArray, List.set_cons_zero, List.set_cons_succ]
        refine wpAnyH_take (i := 34) (oi := ⟨some 44, .slice 23 (.tmp 42) (some (.tmp 43)) none none, 23, "check.go:258", #[⟨32, .data⟩, ⟨33, .data⟩, ⟨30, .guard⟩], some (30, true)⟩) (v := undef) rfl (by kernel_rfl) (by kernel_rfl) (by kernel_rfl) (fun _ _ _ h => h) (Or.inr ⟨by rfl, rfl⟩) hHeld ?_
        try simp only [Act.put, List.setIfInBounds_toArray, List.set_cons_zero, List.set_cons_succ]
        refine wpAnyH_take (i := 35) (oi := ⟨some 45, .load 140 (.tmp 2), 140, "check.go:258", #[⟨30, .guard⟩], some (30, true)⟩) (v := undef) rfl (by kernel_rfl) (by kernel_rfl) (by kernel_rfl) (fun _ _ _ h => h) (Or.inr ⟨by rfl, rfl⟩) hHeld ?_
        try simp only [Act.put, List.setIfInBounds_toArray, List.set_cons_zero, List.set_cons_succ]
        refine wpAnyH_ready (rs := [36]) (by kernel_rfl) (by simp) ?_
        refine AllReadyH.cons (o := ⟨some 46, .makeFunc (.func 174) #[.tmp 45] #[], 40, "check.go:258", #[⟨35, .data⟩, ⟨30, .guard⟩], some (30, true)⟩) rfl (fun K hK => ?_) AllReadyH.nil
        go_simp
        refine hK.out _ _ hHeld (fun _ => ?_)
        clear hK K
        try simp only [Act.put, List.setIfInBounds_toArray, List.set_cons_zero, List.set_cons_succ]
        refine wpAnyH_ready (rs := [37]) (by kernel_rfl) (by simp) ?_
        refine AllReadyH.cons (o := ⟨some 47, .call { callee := .value (.func 143), args := #[.tmp 44, .tmp 46], argTypes := #[23, 40] }, 4, "check.go:259", #[⟨34, .data⟩, ⟨36, .data⟩, ⟨30, .chain⟩, ⟨30, .guard⟩], some (30, true)⟩) rfl (fun K hK => ?_) AllReadyH.nil
        go_simp
        refine hK.out _ _ hHeld (fun _ => ?_)
        clear hK K
        try simp only [Act.put, List.setIfInBounds_toArray, List.set_cons_zero, List.set_cons_succ]
        refine wpAnyH_take (i := 38) (oi := ⟨some 48, .pick (.tmp 40) (.tmp 47) (.const (.bool false)), 4, "check.go:258", #[⟨30, .data⟩, ⟨37, .data⟩], none⟩) (v := ?v38_42) rfl (by kernel_rfl) (by kernel_rfl) (by kernel_rfl) (fun _ _ _ h => h) (Or.inl ⟨by rfl, ?hy38_42⟩) hHeld ?rest38_42
        case hy38_42 => (intro W hSW; (try dsimp only at hSW); go_simp; try with_reducible rfl)
        try simp only [Act.put, List.setIfInBounds_toArray, List.set_cons_zero, List.set_cons_succ]
        refine wpAnyH_take (i := 39) (oi := ⟨some 4, .assign (.tmp 48), 4, "check.go:258", #[⟨38, .data⟩, ⟨37, .chain⟩, ⟨0, .phase⟩, ⟨1, .phase⟩, ⟨2, .phase⟩, ⟨3, .phase⟩, ⟨4, .phase⟩, ⟨5, .phase⟩, ⟨6, .phase⟩, ⟨7, .phase⟩, ⟨8, .phase⟩, ⟨9, .phase⟩, ⟨10, .phase⟩, ⟨11, .phase⟩, ⟨12, .phase⟩, ⟨13, .phase⟩, ⟨14, .phase⟩, ⟨15, .phase⟩, ⟨16, .phase⟩, ⟨17, .phase⟩, ⟨18, .phase⟩, ⟨19, .phase⟩, ⟨20, .phase⟩, ⟨21, .phase⟩, ⟨22, .phase⟩, ⟨23, .phase⟩, ⟨24, .phase⟩, ⟨25, .phase⟩, ⟨26, .phase⟩, ⟨27, .phase⟩, ⟨28, .phase⟩, ⟨29, .phase⟩, ⟨30, .phase⟩, ⟨31, .phase⟩, ⟨32, .phase⟩, ⟨33, .phase⟩, ⟨34, .phase⟩, ⟨35, .phase⟩, ⟨36, .phase⟩, ⟨37, .phase⟩, ⟨38, .phase⟩], none⟩) (v := ?v39_43) rfl (by kernel_rfl) (by kernel_rfl) (by kernel_rfl) (fun _ _ _ h => h) (Or.inl ⟨by rfl, ?hy39_43⟩) hHeld ?rest39_43
        case hy39_43 => (intro W hSW; (try dsimp only at hSW); go_simp; try with_reducible rfl)
        try simp only [Act.put, List.setIfInBounds_toArray, List.set_cons_zero, List.set_cons_succ]
        refine wpAnyH_done (by kernel_rfl) ?_ _
        have HS := Lib.hid hHeld
        clear hHeld
        go_wp2_with fail
        go_ret
        exact ⟨by rw [HO.out]; simp [*], HS.out.2.2.2.2.2.2.2⟩
      | true =>
        refine wpAnyH_ready (rs := [12]) (by kernel_rfl) (by simp) ?_
        refine AllReadyH.cons (o := ⟨some 22, .call { callee := .value (.func 173), args := #[.tmp 19, .tmp 21], argTypes := #[140, 9] }, 4, "check.go:258", #[⟨9, .data⟩, ⟨11, .data⟩, ⟨8, .chain⟩, ⟨8, .guard⟩], some (8, true)⟩) rfl (fun K hK => ?_) AllReadyH.nil
        go_simp
        go_at_call 173
        refine (RN.out _ hHeld).mono ?_
        rintro e w7 ⟨rfl, s7⟩
        clear hHeld
        have hHeld := s7
        clear s7
        refine hK.out _ _ hHeld (fun _ => ?_)
        clear hK K
        try simp only [Act.put, List.setIfInBounds_toArray, List.set_cons_zero, List.set_cons_succ]
        refine wpAnyH_take (i := 13) (oi := ⟨some 23, .pick (.tmp 18) (.tmp 22) (.const (.bool false)), 4, "check.go:258", #[⟨8, .data⟩, ⟨12, .data⟩], none⟩) (v := ?v13_44) rfl (by kernel_rfl) (by kernel_rfl) (by kernel_rfl) (fun _ _ _ h => h) (Or.inl ⟨by rfl, ?hy13_44⟩) hHeld ?rest13_44
        case hy13_44 => (intro W hSW; (try dsimp only at hSW); go_simp; try with_reducible rfl)
        try simp only [Act.put, List.setIfInBounds_toArray, List.set_cons_zero, List.set_cons_succ]
        refine wpAnyH_take (i := 14) (oi := ⟨some 24, .move (.tmp 23), 4, "check.go:258", #[⟨13, .data⟩, ⟨12, .chain⟩], none⟩) (v := ?v14_45) rfl (by kernel_rfl) (by kernel_rfl) (by kernel_rfl) (fun _ _ _ h => h) (Or.inl ⟨by rfl, ?hy14_45⟩) hHeld ?rest14_45
        case hy14_45 => (intro W hSW; (try dsimp only at hSW); go_simp; try with_reducible rfl)
        try simp only [Act.put, List.setIfInBounds_toArray, List.set_cons_zero, List.set_cons_succ]
        refine wpAnyH_take (i := 15) (oi := ⟨some 25, .fieldAddr 25 (.tmp 3) 4, 0, "check.go:258", #[⟨14, .guard⟩], some (14, true)⟩) (v := ?v15_46) rfl (by kernel_rfl) (by kernel_rfl) (by kernel_rfl) (fun _ _ _ h => h) (Or.inl ⟨by rfl, ?hy15_46⟩) hHeld ?rest15_46
        case hy15_46 => (intro W hSW; (try dsimp only at hSW); go_simp; try with_reducible rfl)
        try simp only [Act.put, List.setIfInBounds_toArray, List.set_cons_zero, List.set_cons_succ]
        refine wpAnyH_take (i := 16) (oi := ⟨some 26, .load 23 (.tmp 25), 23, "check.go:258", #[⟨15, .data⟩, ⟨14, .guard⟩], some (14, true)⟩) (v := ?v16_47) rfl (by kernel_rfl) (by kernel_rfl) (by kernel_rfl) (fun _ _ _ h => h) (Or.inl ⟨by rfl, ?hy16_47⟩) hHeld ?rest16_47
        case hy16_47 => (intro W hSW; (try dsimp only at hSW); go_simp; try with_reducible rfl)
        try simp only [Act.put, List.setIfInBounds_toArray, List.set_cons_zero, List.set_cons_succ]
        refine wpAnyH_take (i := 17) (oi := ⟨some 27, .call { callee := .builtin .len, args := #[.tmp 26], argTypes := #[23] }, 3, "check.go:258", #[⟨16, .data⟩, ⟨14, .guard⟩], some (14, true)⟩) (v := ?v17_48) rfl (by kernel_rfl) (by kernel_rfl) (by kernel_rfl) (fun _ _ _ h => h) (Or.inl ⟨by rfl, ?hy17_48⟩) hHeld ?rest17_48
        case hy17_48 => (intro W hSW; (try dsimp only at hSW); go_simp; try with_reducible rfl)
        try simp only [Act.put, List.setIfInBounds_toArray, List.set_cons_zero, List.set_cons_succ]
        cases hl5 : decide (((l.length : Nat) : Int) ≤ 512) with
        | false =>
          refine wpAnyH_take (i := 18) (oi := ⟨some 28, .binOp .leq 3 (.tmp 27) (.const (.int .i64 512)) 3, 4, "check.go:258", #[⟨17, .data⟩, ⟨14, .guard⟩], some (14, true)⟩) (v := ?v18_49) rfl (by kernel_rfl) (by kernel_rfl) (by kernel_rfl) (fun _ _ _ h => h) (Or.inl ⟨by rfl, ?hy18_49⟩) hHeld ?rest18_49
          case hy18_49 => (intro W hSW; (try dsimp only at hSW); go_simp; try with_reducible rfl)
          try simp only [Act.put, List.setIfInBounds_toArray, List.set_cons_zero, List.set_cons_succ]
          refine wpAnyH_take (i := 19) (oi := ⟨some 29, .pick (.tmp 24) (.tmp 28) (.const (.bool false)), 4, "check.go:258", #[⟨14, .data⟩, ⟨18, .data⟩], none⟩) (v := ?v19_50) rfl (by kernel_rfl) (by kernel_rfl) (by kernel_rfl) (fun _ _ _ h => h) (Or.inl ⟨by rfl, ?hy19_50⟩) hHeld ?rest19_50
          case hy19_50 => (intro W hSW; (try dsimp only at hSW); go_simp; try with_reducible rfl)
          try simp only [Act.put, List.setIfInBounds_toArray, List.set_cons_zero, List.set_cons_succ]
          refine wpAnyH_take (i := 20) (oi := ⟨some 30, .move (.tmp 29), 4, "check.go:258", #[⟨19, .data⟩, ⟨14, .chain⟩], none⟩) (v := ?v20_51) rfl (by kernel_rfl) (by kernel_rfl) (by kernel_rfl) (fun _ _ _ h => h) (Or.inl ⟨by rfl, ?hy20_51⟩) hHeld ?rest20_51
          case hy20_51 => (intro W hSW; (try dsimp only at hSW); go_simp; try with_reducible rfl)
          try simp only [Act.put, List.setIfInBounds_toArray, List.set_cons_zero, List.set_cons_succ]
          refine wpAnyH_take (i := 21) (oi := ⟨some 31, .fieldAddr 25 (.tmp 3) 4, 0, "check.go:258", #[⟨20, .guard⟩], some (20, true)⟩) (v := undef) rfl (by kernel_rfl) (by kernel_rfl) (by kernel_rfl) (fun _ _ _ h => h) (Or.inr ⟨by rfl, rfl⟩) hHeld ?_
          try simp only [Act.put, List.setIfInBounds_toArray, List.set_cons_zero, List.set_cons_succ]
          refine wpAnyH_take (i := 22) (oi := ⟨some 32, .load 23 (.tmp 31), 23, "check.go:258", #[⟨21, .data⟩, ⟨20, .guard⟩], some (20, true)⟩) (v := undef) rfl (by kernel_rfl) (by kernel_rfl) (by kernel_rfl) (fun _ _ _ h => h) (Or.inr ⟨by rfl, rfl⟩) hHeld ?_
          try simp only [Act.put, List.setIfInBounds_toArray, List.set_cons_zero, List.set_cons_succ]
          refine wpAnyH_take (i := 23) (oi := ⟨some 33, .move (.tmp 5), 3, "check.go:258", #[⟨20, .guard⟩], some (20, true)⟩) (v := undef) rfl (by kernel_rfl) (by kernel_rfl) (by kernel_rfl) (fun _ _ _ h => h) (Or.inr ⟨by rfl, rfl⟩) hHeld ?_
          try simp only [Act.put, List.setIfInBounds_toArray, List.set_cons_zero, List.set_cons_succ]
          refine wpAnyH_take (i := 24) (oi := ⟨some 34, .slice 23 (.tmp 32) none (some (.tmp 33)) none, 23, "check.go:258", #[⟨22, .data⟩, ⟨23, .data⟩, ⟨20, .guard⟩], some (20, true)⟩) (v := undef) rfl (by kernel_rfl) (by kernel_rfl) (by kernel_rfl) (fun _ _ _ h => h) (Or.inr ⟨by rfl, rfl⟩) hHeld ?_
          try simp only [Act.put, List.setIfInBounds_toArray, List.set_cons_zero, List.set_cons_succ]
          refine wpAnyH_take (i := 25) (oi := ⟨some 35, .load 140 (.tmp 2), 140, "check.go:258", #[⟨20, .guard⟩], some (20, true)⟩) (v := undef) rfl (by kernel_rfl) (by kernel_rfl) (by kernel_rfl) (fun _ _ _ h => h) (Or.inr ⟨by rfl, rfl⟩) hHeld ?_
          try simp only [Act.put, List.setIfInBounds_toArray, List.set_cons_zero, List.set_cons_succ]
          refine wpAnyH_ready (rs := [26]) (by kernel_rfl) (by simp) ?_
          refine AllReadyH.cons (o := ⟨some 36, .call { callee := .value (.func 144), args := #[.tmp 35], argTypes := #[140] }, 140, "check.go:259", #[⟨25, .data⟩, ⟨20, .chain⟩, ⟨20, .guard⟩], some (20, true)⟩) rfl (fun K hK => ?_) AllReadyH.nil
          go_simp
          refine hK.out _ _ hHeld (fun _ => ?_)
          clear hK K
          try simp only [Act.put, List.setIfInBounds_toArray, List.set_cons_zero, List.set_cons_succ]
          refine wpAnyH_ready (rs := [27]) (by kernel_rfl) (by simp) ?_
          refine AllReadyH.cons (o := ⟨some 37, .makeFunc (.func 91) #[.tmp 36] #[], 40, "check.go:258", #[⟨26, .data⟩, ⟨20, .guard⟩], some (20, true)⟩) rfl (fun K hK => ?_) AllReadyH.nil
          go_simp
          refine hK.out _ _ hHeld (fun _ => ?_)
          clear hK K
          try simp only [Act.put, List.setIfInBounds_toArray, List.set_cons_zero, List.set_cons_succ]
          refine wpAnyH_ready (rs := [28]) (by kernel_rfl) (by simp) ?_
          refine AllReadyH.cons (o := ⟨some 38, .call { callee := .value (.func 143), args := #[.tmp 34, .tmp 37], argTypes := #[23, 40] }, 4, "check.go:259", #[⟨24, .data⟩, ⟨27, .data⟩, ⟨26, .chain⟩, ⟨20, .guard⟩], some (20, true)⟩) rfl (fun K hK => ?_) AllReadyH.nil
          go_simp
          refine hK.out _ _ hHeld (fun _ => ?_)
          clear hK K
          try simp only [Act.put, List.setIfInBounds_toArray, List.set_cons_zero, List.set_cons_succ]
          refine wpAnyH_take (i := 29) (oi := ⟨some 39, .pick (.tmp 30) (.tmp 38) (.const (.bool false)), 4, "check.go:258", #[⟨20, .data⟩, ⟨28, .data⟩], none⟩) (v := ?v29_52) rfl (by kernel_rfl) (by kernel_rfl) (by kernel_rfl) (fun _ _ _ h => h) (Or.inl ⟨by rfl, ?hy29_52⟩) hHeld ?rest29_52
          case hy29_52 => (intro W hSW; (try dsimp only at hSW); go_simp; try with_reducible rfl)
          try simp only [Act.put, List.setIfInBounds_toArray, List.set_cons_zero, List.set_cons_succ]
          refine wpAnyH_take (i := 30) (oi := ⟨some 40, .move (.tmp 39), 4, "check.go:258", #[⟨29, .data⟩, ⟨28, .chain⟩], none⟩) (v := ?v30_53) rfl (by kernel_rfl) (by kernel_rfl) (by kernel_rfl) (fun _ _ _ h => h) (Or.inl ⟨by rfl, ?hy30_53⟩) hHeld ?rest30_53
          case hy30_53 => (intro W hSW; (try dsimp only at hSW); go_simp; try with_reducible rfl)
          try simp only [Act.put, List.setIfInBounds_toArray, List.set_cons_zero, List.set_cons_succ]
          refine wpAnyH_take (i := 31) (oi := ⟨some 41, .fieldAddr 25 (.tmp 3) 4, 0, "check.go:258", #[⟨30, .guard⟩], some (30, true)⟩) (v := undef) rfl (by kernel_rfl) (by kernel_rfl) (by kernel_rfl) (fun _ _ _ h => h) (Or.inr ⟨by rfl, rfl⟩) hHeld ?_
          try simp only [Act.put, List.setIfInBounds_toArray, List.set_cons_zero, List.set_cons_succ]
          refine wpAnyH_take (i := 32) (oi := ⟨some 42, .load 23 (.tmp 41), 23, "check.go:258", #[⟨31, .data⟩, ⟨30, .guard⟩], some (30, true)⟩) (v := undef) rfl (by kernel_rfl) (by kernel_rfl) (by kernel_rfl) (fun _ _ _ h => h) (Or.inr ⟨by rfl, rfl⟩) hHeld ?_
          try simp only [Act.put, List.setIfInBounds_toArray, List.set_cons_zero, List.set_cons_succ]
          refine wpAnyH_take (i := 33) (oi := ⟨some 43, .move (.tmp 5), 3, "check.go:258", #[⟨30, .guard⟩], some (30, true)⟩) (v := undef) rfl (by kernel_rfl) (by kernel_rfl) (by kernel_rfl) (fun _ _ _ h => h) (Or.inr ⟨by rfl, rfl⟩) hHeld ?_
          try simp only [Act.put, List.setIfInBounds_toArray, List.set_cons_zero, List.set_cons_succ]
          refine wpAnyH_take (i := 34) (oi := ⟨some 44, .slice 23 (.tmp 42) (some (.tmp 43)) none none, 23, "check.go:258", #[⟨32, .data⟩, ⟨33, .data⟩, ⟨30, .guard⟩], some (30, true)⟩) (v := undef) rfl (by kernel_rfl) (by kernel_rfl) (by kernel_rfl) (fun _ _ _ h => h) (Or.inr ⟨by rfl, rfl⟩) hHeld ?_
          try simp only [Act.put, List.setIfInBounds_toArray, List.set_cons_zero, List.set_cons_succ]
          refine wpAnyH_take (i := 35) (oi := ⟨some 45, .load 140 (.tmp 2), 140, "check.go:258", #[⟨30, .guard⟩], some (30, true)⟩) (v := undef) rfl (by kernel_rfl) (by kernel_rfl) (by kernel_rfl) (fun _ _ _ h => h) (Or.inr ⟨by rfl, rfl⟩) hHeld ?_
          try simp only [Act.put, List.setIfInBounds_toArray, List.set_cons_zero, List.set_cons_succ]
          refine wpAnyH_ready (rs := [36]) (by kernel_rfl) (by simp) ?_
          refine AllReadyH.cons (o := ⟨some 46, .makeFunc (.func 174) #[.tmp 45] #[], 40, "check.go:258", #[⟨35, .data⟩, ⟨30, .guard⟩], some (30, true)⟩) rfl (fun K hK => ?_) AllReadyH.nil
          go_simp
          refine hK.out _ _ hHeld (fun _ => ?_)
          clear hK K
          try simp only [Act.put, List.setIfInBounds_toArray, List.set_cons_zero, List.set_cons_succ]
          refine wpAnyH_ready (rs := [37]) (by kernel_rfl) (by simp) ?_
          refine AllReadyH.cons (o := ⟨some 47, .call { callee := .value (.func 143), args := #[.tmp 44, .tmp 46], argTypes := #[23, 40] }, 4, "check.go:259", #[⟨34, .data⟩, ⟨36, .data⟩, ⟨30, .chain⟩, ⟨30, .guard⟩], some (30, true)⟩) rfl (fun K hK => ?_) AllReadyH.nil
          go_simp
          refine hK.out _ _ hHeld (fun _ => ?_)
          clear hK K
          try simp only [Act.put, List.setIfInBounds_toArray, List.set_cons_zero, List.set_cons_succ]
          refine wpAnyH_take (i := 38) (oi := ⟨some 48, .pick (.tmp 40) (.tmp 47) (.const (.bool false)), 4, "check.go:258", #[⟨30, .data⟩, ⟨37, .data⟩], none⟩) (v := ?v38_54) rfl (by kernel_rfl) (by kernel_rfl) (by kernel_rfl) (fun _ _ _ h => h) (Or.inl ⟨by rfl, ?hy38_54⟩) hHeld ?rest38_54
          case hy38_54 => (intro W hSW; (try dsimp only at hSW); go_simp; try with_reducible rfl)
          try simp only [Act.put, List.setIfInBounds_toArray, List.set_cons_zero, List.set_cons_succ]
          refine wpAnyH_take (i := 39) (oi := ⟨some 4, .assign (.tmp 48), 4, "check.go:258", #[⟨38, .data⟩, ⟨37, .chain⟩, ⟨0, .phase⟩, ⟨1, .phase⟩, ⟨2, .phase⟩, ⟨3, .phase⟩, ⟨4, .phase⟩, ⟨5, .phase⟩, ⟨6, .phase⟩, ⟨7, .phase⟩, ⟨8, .phase⟩, ⟨9, .phase⟩, ⟨10, .phase⟩, ⟨11, .phase⟩, ⟨12, .phase⟩, ⟨13, .phase⟩, ⟨14, .phase⟩, ⟨15, .phase⟩, ⟨16, .phase⟩, ⟨17, .phase⟩, ⟨18, .phase⟩, ⟨19, .phase⟩, ⟨20, .phase⟩, ⟨21, .phase⟩, ⟨22, .phase⟩, ⟨23, .phase⟩, ⟨24, .phase⟩, ⟨25, .phase⟩, ⟨26, .phase⟩, ⟨27, .phase⟩, ⟨28, .phase⟩, ⟨29, .phase⟩, ⟨30, .phase⟩, ⟨31, .phase⟩, ⟨32, .phase⟩, ⟨33, .phase⟩, ⟨34, .phase⟩, ⟨35, .phase⟩, ⟨36, .phase⟩, ⟨37, .phase⟩, ⟨38, .phase⟩], none⟩) (v := ?v39_55) rfl (by kernel_rfl) (by kernel_rfl) (by kernel_rfl) (fun _ _ _ h => h) (Or.inl ⟨by rfl, ?hy39_55⟩) hHeld ?rest39_55
          case hy39_55 => (intro W hSW; (try dsimp only at hSW); go_simp; try with_reducible rfl)
          try simp only [Act.put, List.setIfInBounds_toArray, List.set_cons_zero, List.set_cons_succ]
          refine wpAnyH_done (by kernel_rfl) ?_ _
          have HS := Lib.hid hHeld
          clear hHeld
          go_wp2_with fail
          go_ret
          exact ⟨by rw [HO.out]; simp [*], HS.out.2.2.2.2.2.2.2⟩
        | true =>
          refine wpAnyH_take (i := 18) (oi := ⟨some 28, .binOp .leq 3 (.tmp 27) (.const (.int .i64 512)) 3, 4, "check.go:258", #[⟨17, .data⟩, ⟨14, .guard⟩], some (14, true)⟩) (v := ?v18_56) rfl (by kernel_rfl) (by kernel_rfl) (by kernel_rfl) (fun _ _ _ h => h) (Or.inl ⟨by rfl, ?hy18_56⟩) hHeld ?rest18_56
          case hy18_56 => (intro W hSW; (try dsimp only at hSW); go_simp; try with_reducible rfl)
          try simp only [Act.put, List.setIfInBounds_toArray, List.set_cons_zero, List.set_cons_succ]
          refine wpAnyH_take (i := 19) (oi := ⟨some 29, .pick (.tmp 24) (.tmp 28) (.const (.bool false)), 4, "check.go:258", #[⟨14, .data⟩, ⟨18, .data⟩], none⟩) (v := ?v19_57) rfl (by kernel_rfl) (by kernel_rfl) (by kernel_rfl) (fun _ _ _ h => h) (Or.inl ⟨by rfl, ?hy19_57⟩) hHeld ?rest19_57
          case hy19_57 => (intro W hSW; (try dsimp only at hSW); go_simp; try with_reducible rfl)
          try simp only [Act.put, List.setIfInBounds_toArray, List.set_cons_zero, List.set_cons_succ]
          refine wpAnyH_take (i := 20) (oi := ⟨some 30, .move (.tmp 29), 4, "check.go:258", #[⟨19, .data⟩, ⟨14, .chain⟩], none⟩) (v := ?v20_58) rfl (by kernel_rfl) (by kernel_rfl) (by kernel_rfl) (fun _ _ _ h => h) (Or.inl ⟨by rfl, ?hy20_58⟩) hHeld ?rest20_58
          case hy20_58 => (intro W hSW; (try dsimp only at hSW); go_simp; try with_reducible rfl)
          try simp only [Act.put, List.setIfInBounds_toArray, List.set_cons_zero, List.set_cons_succ]
          refine wpAnyH_take (i := 21) (oi := ⟨some 31, .fieldAddr 25 (.tmp 3) 4, 0, "check.go:258", #[⟨20, .guard⟩], some (20, true)⟩) (v := ?v21_59) rfl (by kernel_rfl) (by kernel_rfl) (by kernel_rfl) (fun _ _ _ h => h) (Or.inl ⟨by rfl, ?hy21_59⟩) hHeld ?rest21_59
          case hy21_59 => (intro W hSW; (try dsimp only at hSW); go_simp; try with_reducible rfl)
          try simp only [Act.put, List.setIfInBounds_toArray, List.set_cons_zero, List.set_cons_succ]
          refine wpAnyH_take (i := 22) (oi := ⟨some 32, .load 23 (.tmp 31), 23, "check.go:258", #[⟨21, .data⟩, ⟨20, .guard⟩], some (20, true)⟩) (v := ?v22_60) rfl (by kernel_rfl) (by kernel_rfl) (by kernel_rfl) (fun _ _ _ h => h) (Or.inl ⟨by rfl, ?hy22_60⟩) hHeld ?rest22_60
          case hy22_60 => (intro W hSW; (try dsimp only at hSW); go_simp; try with_reducible rfl)
          try simp only [Act.put, List.setIfInBounds_toArray, List.set_cons_zero, List.set_cons_succ]
          refine wpAnyH_take (i := 23) (oi := ⟨some 33, .move (.tmp 5), 3, "check.go:258", #[⟨20, .guard⟩], some (20, true)⟩) (v := ?v23_61) rfl (by kernel_rfl) (by kernel_rfl) (by kernel_rfl) (fun _ _ _ h => h) (Or.inl ⟨by rfl, ?hy23_61⟩) hHeld ?rest23_61
          case hy23_61 => (intro W hSW; (try dsimp only at hSW); go_simp; try with_reducible rfl)
          try simp only [Act.put, List.setIfInBounds_toArray, List.set_cons_zero, List.set_cons_succ]
          refine wpAnyH_take (i := 24) (oi := ⟨some 34, .slice 23 (.tmp 32) none (some (.tmp 33)) none, 23, "check.go:258", #[⟨22, .data⟩, ⟨23, .data⟩, ⟨20, .guard⟩], some (20, true)⟩) (v := .slice a1 u lc) rfl (by kernel_rfl) (by kernel_rfl) (by kernel_rfl) (fun _ _ _ h => h) (Or.inl ⟨by rfl, ?hy24_62⟩) hHeld ?rest24_62
          case hy24_62 => (intro W hSW; exact run_sliceH rfl rfl rfl hu0 hu1 E1.out W)
          try simp only [Act.put, List.setIfInBounds_toArray, List.set_cons_zero, List.set_cons_succ]
          refine wpAnyH_take (i := 25) (oi := ⟨some 35, .load 140 (.tmp 2), 140, "check.go:258", #[⟨20, .guard⟩], some (20, true)⟩) (v := ?v25_63) rfl (by kernel_rfl) (by kernel_rfl) (by kernel_rfl) (fun _ _ _ h => h) (Or.inl ⟨by rfl, ?hy25_63⟩) hHeld ?rest25_63
          case hy25_63 => (intro W hSW; (try dsimp only at hSW); go_simp; try with_reducible rfl)
          try simp only [Act.put, List.setIfInBounds_toArray, List.set_cons_zero, List.set_cons_succ]
          refine wpAnyH_ready (rs := [26]) (by kernel_rfl) (by simp) ?_
          refine AllReadyH.cons (o := ⟨some 36, .call { callee := .value (.func 144), args := #[.tmp 35], argTypes := #[140] }, 140, "check.go:259", #[⟨25, .data⟩, ⟨20, .chain⟩, ⟨20, .guard⟩], some (20, true)⟩) rfl (fun K hK => ?_) AllReadyH.nil
          go_simp
          go_at_call 144
          refine (DP.out _ hHeld).mono ?_
          rintro e w7 ⟨rfl, s7⟩
          clear hHeld
          have hHeld := s7
          clear s7
          refine hK.out _ _ hHeld (fun _ => ?_)
          clear hK K
          try simp only [Act.put, List.setIfInBounds_toArray, List.set_cons_zero, List.set_cons_succ]
          refine wpAnyH_ready (rs := [27]) (by kernel_rfl) (by simp) ?_
          refine AllReadyH.cons (o := ⟨some 37, .makeFunc (.func 91) #[.tmp 36] #[], 40, "check.go:258", #[⟨26, .data⟩, ⟨20, .guard⟩], some (20, true)⟩) rfl (fun K hK => ?_) AllReadyH.nil
          go_simp
          refine hK.out _ _ hHeld (fun _ => ?_)
          clear hK K
          try simp only [Act.put, List.setIfInBounds_toArray, List.set_cons_zero, List.set_cons_succ]
          cases r1 with
          | false =>
            refine wpAnyH_ready (rs := [28]) (by kernel_rfl) (by simp) ?_
            refine AllReadyH.cons (o := ⟨some 38, .call { callee := .value (.func 143), args := #[.tmp 34, .tmp 37], argTypes := #[23, 40] }, 4, "check.go:259", #[⟨24, .data⟩, ⟨27, .data⟩, ⟨26, .chain⟩, ⟨20, .guard⟩], some (20, true)⟩) rfl (fun K hK => ?_) AllReadyH.nil
            go_simp
            go_at_call 143
            refine (A1.out _ hHeld).mono ?_
            rintro e w7 ⟨rfl, s7⟩
            clear hHeld
            have hHeld := s7
            clear s7
            refine hK.out _ _ hHeld (fun _ => ?_)
            clear hK K
            try simp only [Act.put, List.setIfInBounds_toArray, List.set_cons_zero, List.set_cons_succ]
            refine wpAnyH_take (i := 29) (oi := ⟨some 39, .pick (.tmp 30) (.tmp 38) (.const (.bool false)), 4, "check.go:258", #[⟨20, .data⟩, ⟨28, .data⟩], none⟩) (v := ?v29_64) rfl (by kernel_rfl) (by kernel_rfl) (by kernel_rfl) (fun _ _ _ h => h) (Or.inl ⟨by rfl, ?hy29_64⟩) hHeld ?rest29_64
            case hy29_64 => (intro W hSW; (try dsimp only at hSW); go_simp; try with_reducible rfl)
            try simp only [Act.put, List.setIfInBounds_toArray, List.set_cons_zero, List.set_cons_succ]
            refine wpAnyH_take (i := 30) (oi := ⟨some 40, .move (.tmp 39), 4, "check.go:258", #[⟨29, .data⟩, ⟨28, .chain⟩], none⟩) (v := ?v30_65) rfl (by kernel_rfl) (by kernel_rfl) (by kernel_rfl) (fun _ _ _ h => h) (Or.inl ⟨by rfl, ?hy30_65⟩) hHeld ?rest30_65
            case hy30_65 => (intro W hSW; (try dsimp only at hSW); go_simp; try with_reducible rfl)
            try simp only [Act.put, List.setIfInBounds_toArray, List.set_cons_zero, List.set_cons_succ]
            refine wpAnyH_take (i := 31) (oi := ⟨some 41, .fieldAddr 25 (.tmp 3) 4, 0, "check.go:258", #[⟨30, .guard⟩], some (30, true)⟩) (v := undef) rfl (by kernel_rfl) (by kernel_rfl) (by kernel_rfl) (fun _ _ _ h => h) (Or.inr ⟨by rfl, rfl⟩) hHeld ?_
            try simp only [Act.put, List.setIfInBounds_toArray, List.set_cons_zero, List.set_cons_succ]
            refine wpAnyH_take (i := 32) (oi := ⟨some 42, .load 23 (.tmp 41), 23, "check.go:258", #[⟨31, .data⟩, ⟨30, .guard⟩], some (30, true)⟩) (v := undef) rfl (by kernel_rfl) (by kernel_rfl) (by kernel_rfl) (fun _ _ _ h => h) (Or.inr ⟨by rfl, rfl⟩) hHeld ?_
            try simp only [Act.put, List.setIfInBounds_toArray, List.set_cons_zero, List.set_cons_succ]
            refine wpAnyH_take (i := 33) (oi := ⟨some 43, .move (.tmp 5), 3, "check.go:258", #[⟨30, .guard⟩], some (30, true)⟩) (v := undef) rfl (by kernel_rfl) (by kernel_rfl) (by kernel_rfl) (fun _ _ _ h => h) (Or.inr ⟨by rfl, rfl⟩) hHeld ?_
            try simp only [Act.put, List.setIfInBounds_toArray, List.set_cons_zero, List.set_cons_succ]
            refine wpAnyH_take (i := 34) (oi := ⟨some 44, .slice 23 (.tmp 42) (some (.tmp 43)) none none, 23, "check.go:258", #[⟨32, .data⟩, ⟨33, .data⟩, ⟨30, .guard⟩], some (30, true)⟩) (v := undef) rfl (by kernel_rfl) (by kernel_rfl) (by kernel_rfl) (fun _ _ _ h => h) (Or.inr ⟨by rfl, rfl⟩) hHeld ?_
            try simp only [Act.put, List.setIfInBounds_toArray, List.set_cons_zero, List.set_cons_succ]
            refine wpAnyH_take (i := 35) (oi := ⟨some 45, .load 140 (.tmp 2), 140, "check.go:258", #[⟨30, .guard⟩], some (30, true)⟩) (v := undef) rfl (by kernel_rfl) (by kernel_rfl) (by kernel_rfl) (fun _ _ _ h => h) (Or.inr ⟨by rfl, rfl⟩) hHeld ?_
            try simp only [Act.put, List.setIfInBounds_toArray, List.set_cons_zero, List.set_cons_succ]
            refine wpAnyH_ready (rs := [36]) (by kernel_rfl) (by simp) ?_
            refine AllReadyH.cons (o := ⟨some 46, .makeFunc (.func 174) #[.tmp 45] #[], 40, "check.go:258", #[⟨35, .data⟩, ⟨30, .guard⟩], some (30, true)⟩) rfl (fun K hK => ?_) AllReadyH.nil
            go_simp
            refine hK.out _ _ hHeld (fun _ => ?_)
            clear hK K
            try simp only [Act.put, List.setIfInBounds_toArray, List.set_cons_zero, List.set_cons_succ]
            refine wpAnyH_ready (rs := [37]) (by kernel_rfl) (by simp) ?_
            refine AllReadyH.cons (o := ⟨some 47, .call { callee := .value (.func 143), args := #[.tmp 44, .tmp 46], argTypes := #[23, 40] }, 4, "check.go:259", #[⟨34, .data⟩, ⟨36, .data⟩, ⟨30, .chain⟩, ⟨30, .guard⟩], some (30, true)⟩) rfl (fun K hK => ?_) AllReadyH.nil
            go_simp
            refine hK.out _ _ hHeld (fun _ => ?_)
            clear hK K
            try simp only [Act.put, List.setIfInBounds_toArray, List.set_cons_zero, List.set_cons_succ]
            refine wpAnyH_take (i := 38) (oi := ⟨some 48, .pick (.tmp 40) (.tmp 47) (.const (.bool false)), 4, "check.go:258", #[⟨30, .data⟩, ⟨37, .data⟩], none⟩) (v := ?v38_66) rfl (by kernel_rfl) (by kernel_rfl) (by kernel_rfl) (fun _ _ _ h => h) (Or.inl ⟨by rfl, ?hy38_66⟩) hHeld ?rest38_66
            case hy38_66 => (intro W hSW; (try dsimp only at hSW); go_simp; try with_reducible rfl)
            try simp only [Act.put, List.setIfInBounds_toArray, List.set_cons_zero, List.set_cons_succ]
            refine wpAnyH_take (i := 39) (oi := ⟨some 4, .assign (.tmp 48), 4, "check.go:258", #[⟨38, .data⟩, ⟨37, .chain⟩, ⟨0, .phase⟩, ⟨1, .phase⟩, ⟨2, .phase⟩, ⟨3, .phase⟩, ⟨4, .phase⟩, ⟨5, .phase⟩, ⟨6, .phase⟩, ⟨7, .phase⟩, ⟨8, .phase⟩, ⟨9, .phase⟩, ⟨10, .phase⟩, ⟨11, .phase⟩, ⟨12, .phase⟩, ⟨13, .phase⟩, ⟨14, .phase⟩, ⟨15, .phase⟩, ⟨16, .phase⟩, ⟨17, .phase⟩, ⟨18, .phase⟩, ⟨19, .phase⟩, ⟨20, .phase⟩, ⟨21, .phase⟩, ⟨22, .phase⟩, ⟨23, .phase⟩, ⟨24, .phase⟩, ⟨25, .phase⟩, ⟨26, .phase⟩, ⟨27, .phase⟩, ⟨28, .phase⟩, ⟨29, .phase⟩, ⟨30, .phase⟩, ⟨31, .phase⟩, ⟨32, .phase⟩, ⟨33, .phase⟩, ⟨34, .phase⟩, ⟨35, .phase⟩, ⟨36, .phase⟩, ⟨37, .phase⟩, ⟨38, .phase⟩], none⟩) (v := ?v39_67) rfl (by kernel_rfl) (by kernel_rfl) (by kernel_rfl) (fun _ _ _ h => h) (Or.inl ⟨by rfl, ?hy39_67⟩) hHeld ?rest39_67
            case hy39_67 => (intro W hSW; (try dsimp only at hSW); go_simp; try with_reducible rfl)
            try simp only [Act.put, List.setIfInBounds_toArray, List.set_cons_zero, List.set_cons_succ]
            refine wpAnyH_done (by kernel_rfl) ?_ _
            have HS := Lib.hid hHeld
            clear hHeld
            go_wp2_with fail
            go_ret
            exact ⟨by rw [HO.out]; simp [*], HS.out.2.2.2.2.2.2.2⟩
          | true =>
            refine wpAnyH_ready (rs := [28]) (by kernel_rfl) (by simp) ?_
            refine AllReadyH.cons (o := ⟨some 38, .call { callee := .value (.func 143), args := #[.tmp 34, .tmp 37], argTypes := #[23, 40] }, 4, "check.go:259", #[⟨24, .data⟩, ⟨27, .data⟩, ⟨26, .chain⟩, ⟨20, .guard⟩], some (20, true)⟩) rfl (fun K hK => ?_) AllReadyH.nil
            go_simp
            go_at_call 143
            refine (A1.out _ hHeld).mono ?_
            rintro e w7 ⟨rfl, s7⟩
            clear hHeld
            have hHeld := s7
            clear s7
            refine hK.out _ _ hHeld (fun _ => ?_)
            clear hK K
            try simp only [Act.put, List.setIfInBounds_toArray, List.set_cons_zero, List.set_cons_succ]
            refine wpAnyH_take (i := 29) (oi := ⟨some 39, .pick (.tmp 30) (.tmp 38) (.const (.bool false)), 4, "check.go:258", #[⟨20, .data⟩, ⟨28, .data⟩], none⟩) (v := ?v29_68) rfl (by kernel_rfl) (by kernel_rfl) (by kernel_rfl) (fun _ _ _ h => h) (Or.inl ⟨by rfl, ?hy29_68⟩) hHeld ?rest29_68
            case hy29_68 => (intro W hSW; (try dsimp only at hSW); go_simp; try with_reducible rfl)
            try simp only [Act.put, List.setIfInBounds_toArray, List.set_cons_zero, List.set_cons_succ]
            refine wpAnyH_take (i := 30) (oi := ⟨some 40, .move (.tmp 39), 4, "check.go:258", #[⟨29, .data⟩, ⟨28, .chain⟩], none⟩) (v := ?v30_69) rfl (by kernel_rfl) (by kernel_rfl) (by kernel_rfl) (fun _ _ _ h => h) (Or.inl ⟨by rfl, ?hy30_69⟩) hHeld ?rest30_69
            case hy30_69 => (intro W hSW; (try dsimp only at hSW); go_simp; try with_reducible rfl)
            try simp only [Act.put, List.setIfInBounds_toArray, List.set_cons_zero, List.set_cons_succ]
            refine wpAnyH_take (i := 31) (oi := ⟨some 41, .fieldAddr 25 (.tmp 3) 4, 0, "check.go:258", #[⟨30, .guard⟩], some (30, true)⟩) (v := ?v31_70) rfl (by kernel_rfl) (by kernel_rfl) (by kernel_rfl) (fun _ _ _ h => h) (Or.inl ⟨by rfl, ?hy31_70⟩) hHeld ?rest31_70
            case hy31_70 => (intro W hSW; (try dsimp only at hSW); go_simp; try with_reducible rfl)
            try simp only [Act.put, List.setIfInBounds_toArray, List.set_cons_zero, List.set_cons_succ]
            refine wpAnyH_take (i := 32) (oi := ⟨some 42, .load 23 (.tmp 41), 23, "check.go:258", #[⟨31, .data⟩, ⟨30, .guard⟩], some (30, true)⟩) (v := ?v32_71) rfl (by kernel_rfl) (by kernel_rfl) (by kernel_rfl) (fun _ _ _ h => h) (Or.inl ⟨by rfl, ?hy32_71⟩) hHeld ?rest32_71
            case hy32_71 => (intro W hSW; (try dsimp only at hSW); go_simp; try with_reducible rfl)
            try simp only [Act.put, List.setIfInBounds_toArray, List.set_cons_zero, List.set_cons_succ]
            refine wpAnyH_take (i := 33) (oi := ⟨some 43, .move (.tmp 5), 3, "check.go:258", #[⟨30, .guard⟩], some (30, true)⟩) (v := ?v33_72) rfl (by kernel_rfl) (by kernel_rfl) (by kernel_rfl) (fun _ _ _ h => h) (Or.inl ⟨by rfl, ?hy33_72⟩) hHeld ?rest33_72
            case hy33_72 => (intro W hSW; (try dsimp only at hSW); go_simp; try with_reducible rfl)
            try simp only [Act.put, List.setIfInBounds_toArray, List.set_cons_zero, List.set_cons_succ]
            refine wpAnyH_take (i := 34) (oi := ⟨some 44, .slice 23 (.tmp 42) (some (.tmp 43)) none none, 23, "check.go:258", #[⟨32, .data⟩, ⟨33, .data⟩, ⟨30, .guard⟩], some (30, true)⟩) (v := .slice a2 (l.length - u) (lc - u)) rfl (by kernel_rfl) (by kernel_rfl) (by kernel_rfl) (fun _ _ _ h => h) (Or.inl ⟨by rfl, ?hy34_73⟩) hHeld ?rest34_73
            case hy34_73 => (intro W hSW; exact run_sliceL rfl rfl rfl hu0 hu2 E2.out W)
            try simp only [Act.put, List.setIfInBounds_toArray, List.set_cons_zero, List.set_cons_succ]
            refine wpAnyH_take (i := 35) (oi := ⟨some 45, .load 140 (.tmp 2), 140, "check.go:258", #[⟨30, .guard⟩], some (30, true)⟩) (v := ?v35_74) rfl (by kernel_rfl) (by kernel_rfl) (by kernel_rfl) (fun _ _ _ h => h) (Or.inl ⟨by rfl, ?hy35_74⟩) hHeld ?rest35_74
            case hy35_74 => (intro W hSW; (try dsimp only at hSW); go_simp; try with_reducible rfl)
            try simp only [Act.put, List.setIfInBounds_toArray, List.set_cons_zero, List.set_cons_succ]
            refine wpAnyH_ready (rs := [36]) (by kernel_rfl) (by simp) ?_
            refine AllReadyH.cons (o := ⟨some 46, .makeFunc (.func 174) #[.tmp 45] #[], 40, "check.go:258", #[⟨35, .data⟩, ⟨30, .guard⟩], some (30, true)⟩) rfl (fun K hK => ?_) AllReadyH.nil
            go_simp
            refine hK.out _ _ hHeld (fun _ => ?_)
            clear hK K
            try simp only [Act.put, List.setIfInBounds_toArray, List.set_cons_zero, List.set_cons_succ]
            refine wpAnyH_ready (rs := [37]) (by kernel_rfl) (by simp) ?_
            refine AllReadyH.cons (o := ⟨some 47, .call { callee := .value (.func 143), args := #[.tmp 44, .tmp 46], argTypes := #[23, 40] }, 4, "check.go:259", #[⟨34, .data⟩, ⟨36, .data⟩, ⟨30, .chain⟩, ⟨30, .guard⟩], some (30, true)⟩) rfl (fun K hK => ?_) AllReadyH.nil
            go_simp
            go_at_call 143
            refine (A2.out _ hHeld).mono ?_
            rintro e w7 ⟨rfl, s7⟩
            clear hHeld
            have hHeld := s7
            clear s7
            refine hK.out _ _ hHeld (fun _ => ?_)
            clear hK K
            try simp only [Act.put, List.setIfInBounds_toArray, List.set_cons_zero, List.set_cons_succ]
            refine wpAnyH_take (i := 38) (oi := ⟨some 48, .pick (.tmp 40) (.tmp 47) (.const (.bool false)), 4, "check.go:258", #[⟨30, .data⟩, ⟨37, .data⟩], none⟩) (v := ?v38_75) rfl (by kernel_rfl) (by kernel_rfl) (by kernel_rfl) (fun _ _ _ h => h) (Or.inl ⟨by rfl, ?hy38_75⟩) hHeld ?rest38_75
            case hy38_75 => (intro W hSW; (try dsimp only at hSW); go_simp; try with_reducible rfl)
            try simp only [Act.put, List.setIfInBounds_toArray, List.set_cons_zero, List.set_cons_succ]
            refine wpAnyH_take (i := 39) (oi := ⟨some 4, .assign (.tmp 48), 4, "check.go:258", #[⟨38, .data⟩, ⟨37, .chain⟩, ⟨0, .phase⟩, ⟨1, .phase⟩, ⟨2, .phase⟩, ⟨3, .phase⟩, ⟨4, .phase⟩, ⟨5, .phase⟩, ⟨6, .phase⟩, ⟨7, .phase⟩, ⟨8, .phase⟩, ⟨9, .phase⟩, ⟨10, .phase⟩, ⟨11, .phase⟩, ⟨12, .phase⟩, ⟨13, .phase⟩, ⟨14, .phase⟩, ⟨15, .phase⟩, ⟨16, .phase⟩, ⟨17, .phase⟩, ⟨18, .phase⟩, ⟨19, .phase⟩, ⟨20, .phase⟩, ⟨21, .phase⟩, ⟨22, .phase⟩, ⟨23, .phase⟩, ⟨24, .phase⟩, ⟨25, .phase⟩, ⟨26, .phase⟩, ⟨27, .phase⟩, ⟨28, .phase⟩, ⟨29, .phase⟩, ⟨30, .phase⟩, ⟨31, .phase⟩, ⟨32, .phase⟩, ⟨33, .phase⟩, ⟨34, .phase⟩, ⟨35, .phase⟩, ⟨36, .phase⟩, ⟨37, .phase⟩, ⟨38, .phase⟩], none⟩) (v := ?v39_76) rfl (by kernel_rfl) (by kernel_rfl) (by kernel_rfl) (fun _ _ _ h => h) (Or.inl ⟨by rfl, ?hy39_76⟩) hHeld ?rest39_76
            case hy39_76 => (intro W hSW; (try dsimp only at hSW); go_simp; try with_reducible rfl)
            try simp only [Act.put, List.setIfInBounds_toArray, List.set_cons_zero, List.set_cons_succ]
            refine wpAnyH_done (by kernel_rfl) ?_ _
            have HS := Lib.hid hHeld
            clear hHeld
            go_wp2_with fail
            go_ret
            exact ⟨by rw [HO.out]; simp [*], HS.out.2.2.2.2.2.2.2⟩
end Go.Proofs.YtpcldpnaljheoaaGreatDoor
end
section
namespace Go.Proofs.YtpcldpnaljheoaaGreatDoor
open Go.RowKit Go.Deep Go.Maps

set_option maxRecDepth 100000 in
set_option maxHeartbeats 2000000 in
theorem expr_deep (d op n : Int) (nm fd : ByteArray) (kla : Option Addr) (len klc : Nat) (w : World) :
    Calls Tryz.prog 91 #[.agg #[.int .i64 d, .int .i64 48], .agg #[.int .i64 op, .int .i64 n, .string nm, .string fd, .slice kla len klc]] w fun e w' => e = .returned (.bool false) ∧ Below w.heap.size w w' := by
  have R0 := Lib.hid ((((Below.refl w.heap.size w).alloc (Nat.le_refl _) (.cells #[.int .i64 d, .int .i64 48] 140)).alloc (by simp) (.cells #[.int .i64 op, .int .i64 n, .string nm, .string fd, .slice kla len klc] 25)).alloc (by simp; omega) (.cells #[.int .i64 d, .int .i64 48] 140))
  go_enter Tryz.func91, Tryz.ntmps91
  go_wp2_with fail
  refine (tooDeep_any d 48 _).mono ?_
  rintro e w1 ⟨rfl, rfl⟩
  rw [show decide ((48 : Int) ≤ 48) = true from rfl]
  go_wp2_with fail
  go_ret
  exact ⟨rfl, R0.out⟩
set_option maxRecDepth 100000 in
set_option maxHeartbeats 2000000 in
theorem expr_call (w0 : World) (d : Int) (ar k : Nat) (hk : ar + (k + 1) = 48) (n : Int) (nm fd : ByteArray) (kla : Option Addr) (kl : List (List D)) (klc : Nat) (hnm : nm.size ≤ maxLen) (hA : At w0 (.slice kla kl.length klc) (.row kl)) (hs : ∀ x ∈ kl, ShE x)
    (hf : OkFn w0 91 (.agg #[.int .i64 d, .int .i64 ((ar + 1 : Nat) : Int)]) kl (okE d k)) (w : World) (hW : Below w0.heap.size w0 w) :
    Calls Tryz.prog 91 #[.agg #[.int .i64 d, .int .i64 ar], .agg #[.int .i64 7, .int .i64 n, .string nm, .string fd, .slice kla kl.length klc]] w fun e w' => e = .returned (.bool (callE d n nm fd kl (okE d k))) ∧ Below w.heap.size w w' := by
  have hdp : decide ((48 : Int) ≤ (ar : Int)) = false := by simp; omega
  have HC := Lib.hid (fun (W : World) (hW : Below w0.heap.size w0 W) => call_form w0 d ar k hk 7 n nm fd kla kl klc hnm hA hs hf W hW)
  have HW := Lib.hid hW
  have R0 := Lib.hid (((Below.refl w.heap.size w).alloc (Nat.le_refl _) (.cells #[.int .i64 d, .int .i64 ar] 140)).alloc (by simp) (.cells #[.int .i64 7, .int .i64 n, .string nm, .string fd, .slice kla kl.length klc] 25))
  have KP := Lib.hid (box_first w (.cells #[.int .i64 d, .int .i64 ar] 140) (.cells #[.int .i64 7, .int .i64 n, .string nm, .string fd, .slice kla kl.length klc] 25))
  have KQ := Lib.hid (box_second w (.cells #[.int .i64 d, .int .i64 ar] 140) (.cells #[.int .i64 7, .int .i64 n, .string nm, .string fd, .slice kla kl.length klc] 25))
  clear hA hs hf hW hk
  go_enter Tryz.func91, Tryz.ntmps91
  go_wp2_with fail
  refine (tooDeep_any d ar _).mono ?_
  rintro e w1 ⟨rfl, hw1⟩
  have b1 := (Below.refl _ ((w.alloc (.cells #[.int .i64 d, .int .i64 ar] 140)).alloc (.cells #[.int .i64 7, .int .i64 n, .string nm, .string fd, .slice kla kl.length klc] 25))).alloc (Nat.le_refl _) (.cells #[.int .i64 d, .int .i64 ar] 140)
  rw [← hw1] at b1
  clear hw1
  have R1 := Lib.hid (R0.out.trans (b1.mono R0.out.size))
  have cP1 := box_cells ((b1.block _ (heap_lt KP.out)).trans KP.out)
  have cQ1 := box_cells ((b1.block _ (heap_lt KQ.out)).trans KQ.out)
  rw [hdp]
  clear b1
  go_wp2_with fail
  refine (HC.out _ (HW.out.trans (R1.out.mono HW.out.size))).mono ?_
  rintro e w2 ⟨rfl, b2⟩
  have R2 := Lib.hid (R1.out.trans (b2.mono R1.out.size))
  clear b2 cP1 cQ1
  generalize hr : callE d n nm fd kl (okE d k) = r
  go_wp2_with fail
  go_ret
  exact ⟨by rw [hr]; rfl, R2.out⟩
theorem cexpr_any (w0 : World) (d : Int) : ∀ (k ar : Nat), ar + k = 48 → ∀ (x : List D) (vs : List Value), ShE x → AllAt w0 vs x → ∀ W, Below w0.heap.size w0 W →
    Calls Tryz.prog 91 #[.agg #[.int .i64 d, .int .i64 ar], .agg ⟨vs⟩] W fun e W' => e = .returned (.bool (okE d k x)) ∧ Below W.heap.size W W'
  | 0, ar, hk, x, vs, hx, hv, W, hW => by
    obtain ⟨op, n, nm, fd, kl, kla, klc, rfl, rfl, _⟩ := hv.openE hx
    obtain rfl : ar = 48 := by omega
    exact expr_deep d op n nm fd kla kl.length klc W
  | k + 1, ar, hk, x, vs, hx, hv, W, hW => by
    obtain ⟨op, n, nm, fd, kl, kla, klc, rfl, rfl, _, _, hnm, hfd, akl, skl⟩ := hv.openE hx
    have hf : OkFn w0 91 (.agg #[.int .i64 d, .int .i64 ((ar + 1 : Nat) : Int)]) kl (okE d k) := fun y hy us hu U hU => cexpr_any w0 d k (ar + 1) (by omega) y us (skl y hy) hu U hU
    cases hop : op == 7 with
    | true =>
      obtain rfl : op = 7 := by simpa using hop
      exact expr_call w0 d ar k (by omega) n nm fd kla kl klc hnm akl skl hf W hW
    | false =>
      rw [show okE d (k + 1) [.int op, .int n, .str nm, .str fd, .row kl] = formE d op n nm fd kl (okE d k) by simp [okE, hop]]
      exact expr_form w0 d ar k (by omega) op n nm fd kla kl klc hop hnm hfd akl skl hf W hW
end Go.Proofs.YtpcldpnaljheoaaGreatDoor
end
section
namespace Go.Proofs.YtpcldpnaljheoaaGreatDoor
open Go.RowKit Go.Deep Go.Maps

def codeOf (b : Bool) : Int := if b then 0 else 1
def chkE (d : Int) (x : List D) : Bool := knows d && okE d 48 x
set_option maxRecDepth 100000 in
set_option maxHeartbeats 2000000 in
theorem checkExpr_any (w0 : World) (d : Int) (x : List D) (vs : List Value) (hx : ShE x) (hv : AllAt w0 vs x) (w : World) (hW : Below w0.heap.size w0 w) :
    Calls Tryz.prog 49 #[.int .i64 d, .agg ⟨vs⟩] w fun e w' => e = .returned (.int .i64 (codeOf (chkE d x))) ∧ Below w.heap.size w w' := by
  have HE := Lib.hid (fun (W : World) (hW : Below w0.heap.size w0 W) => cexpr_any w0 d 48 0 rfl x vs hx hv W hW)
  obtain ⟨op, n, nm, fd, kl, kla, klc, hxe, rfl, _⟩ := hv.openE hx
  have HW := Lib.hid hW
  have HX := Lib.hid hxe
  clear hW hv hx hxe
  have R0 := Lib.hid (((Below.refl w.heap.size w).alloc (Nat.le_refl _) (.cells #[.int .i64 op, .int .i64 n, .string nm, .string fd, .slice kla kl.length klc] 25)).alloc (by simp) (.cells #[.int .i64 d, .int .i64 0] 140))
  have KQ := Lib.hid (box_first w (.cells #[.int .i64 op, .int .i64 n, .string nm, .string fd, .slice kla kl.length klc] 25) (.cells #[.int .i64 d, .int .i64 0] 140))
  have KP := Lib.hid (box_second w (.cells #[.int .i64 op, .int .i64 n, .string nm, .string fd, .slice kla kl.length klc] 25) (.cells #[.int .i64 d, .int .i64 0] 140))
  go_enter Tryz.func49, Tryz.ntmps49
  go_wp2_with fail
  refine (knows_any d 0 _).mono ?_
  rintro e w1 ⟨rfl, hw1⟩
  have b1 := (Below.refl _ ((w.alloc (.cells #[.int .i64 op, .int .i64 n, .string nm, .string fd, .slice kla kl.length klc] 25)).alloc (.cells #[.int .i64 d, .int .i64 0] 140))).alloc (Nat.le_refl _) (.cells #[.int .i64 d, .int .i64 0] 140)
  rw [← hw1] at b1
  clear hw1
  have R1 := Lib.hid (R0.out.trans (b1.mono R0.out.size))
  have cP1 := box_cells ((b1.block _ (heap_lt KP.out)).trans KP.out)
  have cQ1 := box_cells ((b1.block _ (heap_lt KQ.out)).trans KQ.out)
  clear b1
  cases hkn : knows d with
  | false =>
    have HO := Lib.hid (show chkE d x = false by unfold chkE; rw [hkn]; rfl)
    go_wp2_with fail
    refine (told_no _).mono ?_
    rintro e w2 ⟨rfl, rfl⟩
    go_wp2_with fail
    go_ret
    exact ⟨by rw [HO.out]; rfl, R1.out⟩
  | true =>
    have HO := Lib.hid (show chkE d x = okE d 48 x by unfold chkE; rw [hkn]; rfl)
    go_wp2_with fail
    refine (HE.out _ (HW.out.trans (R1.out.mono HW.out.size))).mono ?_
    rintro e w2 ⟨rfl, b2⟩
    have R2 := Lib.hid (R1.out.trans (b2.mono R1.out.size))
    clear b2 cP1 cQ1
    cases hr : okE d 48 x with
    | false =>
      go_wp2_with fail
      refine (told_no _).mono ?_
      rintro e w2 ⟨rfl, rfl⟩
      go_wp2_with fail
      go_ret
      exact ⟨by rw [HO.out, hr]; rfl, R2.out⟩
    | true =>
      go_wp2_with fail
      refine (told_yes _).mono ?_
      rintro e w2 ⟨rfl, rfl⟩
      go_wp2_with fail
      go_ret
      exact ⟨by rw [HO.out, hr]; rfl, R2.out⟩
end Go.Proofs.YtpcldpnaljheoaaGreatDoor
end
section
namespace Go.Proofs.YtpcldpnaljheoaaGreatDoor
open Go.RowKit Go.Deep

theorem sp_new (w : World) : SP w.heap.size [] (w.alloc (.cells #[.slice none 0 0, .int .i64 (9223372036854775807 : Nat), .int .i64 0, .bool false] 146)) :=
  ⟨⟨9223372036854775807, S.SinkAt.new w _, rfl⟩, Nat.zero_le _⟩
theorem mine_new (w : World) {room d f : Value} (k : Nat) (h : S.Mine (w.alloc (.cells #[.slice none 0 0, room, d, f] 146)) w.heap.size k) : k = w.heap.size := by
  rcases (S.mine_of (heap_new w _) k).1 h with g | g
  · exact g
  · cases g
theorem run_store_func (g : Nat) (a : Addr) (w : World) (m : Mode) : (store a (.func (.func g) #[] #[]) m).run Tryz.prog w = stored Tryz.prog w a (.func (.func g) #[] #[]) m := run_store _ w a _ m rfl
def NewP (U w' : World) : Prop := w' = U.alloc (.cells #[.slice none 0 0, .int .i64 (9223372036854775807 : Nat), .int .i64 0, .bool false] 146)
theorem newP (U : World) : Calls Tryz.prog 50 #[.int .i64 9223372036854775807] U fun e w' => e = .returned (.pointer (some ⟨U.heap.size, 0, none⟩)) ∧ NewP U w' := S.new_any 9223372036854775807 9223372036854775807 (by omega) U
theorem new_keeps {U w' : World} (h : NewP U w') {b : Nat} (hb : b < U.heap.size) {o : Obj} (ho : U.heap[b]? = some o) : w'.heap[b]? = some o := by
  rw [show w' = _ from h]
  exact (((Below.refl _ _).alloc (Nat.le_refl _) _).block _ hb).trans ho
theorem sp_of_heap {W : World} {q : Nat} (h : W.heap[q]? = some (.cells #[.slice none 0 0, .int .i64 (9223372036854775807 : Nat), .int .i64 0, .bool false] 146)) : SP q [] W ∧ ∀ k, S.Mine W q k → k = q :=
  ⟨⟨⟨9223372036854775807, ⟨_, h, World.ownsRow_nil _ _ _ _, fun h => by cases h⟩, rfl⟩, Nat.zero_le _⟩, fun k hk => by
    rcases (S.mine_of h k).1 hk with g | g
    · exact g
    · cases g⟩
theorem new_heap {U w' : World} (h : NewP U w') {q : Nat} (hq : U.heap.size = q) : w'.heap[q]? = some (.cells #[.slice none 0 0, .int .i64 (9223372036854775807 : Nat), .int .i64 0, .bool false] 146) := by
  subst hq
  rw [show w' = _ from h]
  exact heap_new _ _
theorem new_below {U w' w1 : World} (h : NewP U w') (hb : Below w1.heap.size w1 U) : Below w1.heap.size w1 w' := by
  rw [show w' = _ from h]
  exact hb.alloc hb.size _
theorem set3_ne (W : World) (b k : Nat) (hk : k ≠ b) (v0 v1 v2 : Value) : (((W.setCell ⟨b, 0, none⟩ v0).setCell ⟨b, 1, none⟩ v1).setCell ⟨b, 2, none⟩ v2).heap[k]? = W.heap[k]? := by
  rw [Below.heap_setCell _ _ _ _ hk, Below.heap_setCell _ _ _ _ hk, Below.heap_setCell _ _ _ _ hk]
set_option maxRecDepth 100000 in
set_option maxHeartbeats 4000000 in
theorem exPrint_ok {w : World} (hG : Gt w) {op n : Int} {nm fd : ByteArray} {a : Option Addr} {len c : Nat} {x : List D} (hv : AllAt w [.int .i64 op, .int .i64 n, .string nm, .string fd, .slice a len c] x) (hs : ShE x) (hc : codeOf (chkE 0 x) = 0) {t : List D → List UInt8} (hp : ∀ w0 q, Gt w0 → PrFn w0 q t x) (hl : (t x).length ≤ 100000000) :
    Calls Tryz.prog 26 #[.int .i64 0, exV op n nm fd a len c, .agg #[.func (.func 27) #[] #[], .func (.func 28) #[] #[]]] w fun e w' => e = .returned (.tuple #[.string ⟨(t x).toArray⟩, .int .i64 0]) ∧ Below w.heap.size w w' := by
  have Z1 := (Below.refl w.heap.size w).alloc (Nat.le_refl _) (.cells #[.int .i64 op, .int .i64 n, .string nm, .string fd, .slice a len c] 25)
  have Z2 := Z1.alloc Z1.size (.cells #[.func (.func 27) #[] #[], .func (.func 28) #[] #[]] 65)
  have k1 := heap_new w (.cells #[.int .i64 op, .int .i64 n, .string nm, .string fd, .slice a len c] 25)
  have k2 := heap_new (w.alloc (.cells #[.int .i64 op, .int .i64 n, .string nm, .string fd, .slice a len c] 25)) (.cells #[.func (.func 27) #[] #[], .func (.func 28) #[] #[]] 65)
  have e1 : (w.alloc (.cells #[.int .i64 op, .int .i64 n, .string nm, .string fd, .slice a len c] 25)).heap.size = w.heap.size + 1 := by simp
  have N2 := (Below.refl _ (w.alloc (.cells #[.int .i64 op, .int .i64 n, .string nm, .string fd, .slice a len c] 25))).alloc (Nat.le_refl _) (.cells #[.func (.func 27) #[] #[], .func (.func 28) #[] #[]] 65)
  rw [e1] at k2 N2
  have K1 := Lib.hid ((N2.block _ (by omega)).trans k1)
  have K2 := Lib.hid k2
  have HZ := Lib.hid Z2
  have HC := Lib.hid (checkExpr_any w 0 x _ hs hv _ Z2)
  rw [hc] at HC
  have HV := Lib.hid (fun (U : World) (b : Below w.heap.size w U) => (hv.sub (sub_low (fun _ => False) b fun _ h => h.elim)).sub (mk_sub _ _))
  have HG := Lib.hid hG
  have HP := Lib.hid hp
  have HL := Lib.hid hl
  clear Z1 Z2 k1 k2 e1 N2 hG hv hs hc hp hl
  go_enter Tryz.func26, Tryz.ntmps26
  go_wp2_with fail
  generalize (w.alloc (.cells #[.int .i64 op, .int .i64 n, .string nm, .string fd, .slice a len c] 25)).alloc (.cells #[.func (.func 27) #[] #[], .func (.func 28) #[] #[]] 65) = W0 at K1 K2 HZ HC ⊢
  refine HC.out.mono ?_
  rintro e w1 ⟨rfl, b1⟩
  have B1 := Lib.hid (HZ.out.trans (b1.mono HZ.out.size))
  have K11 := Lib.hid ((b1.block _ (heap_lt K1.out)).trans K1.out)
  have K12 := Lib.hid ((b1.block _ (heap_lt K2.out)).trans K2.out)
  have g1 := box_cells K11.out
  have g2 := box_cells K12.out
  have l1 := heap_lt K11.out
  have l2 := heap_lt K12.out
  clear b1 HC HZ K1 K2
  go_wp2_with fail
  have KB1 := Lib.hid ((((Below.refl _ _).alloc (Nat.le_refl _) (.cells #[.pointer none, .nilFunc, .nilFunc] 99)).block _ l1).trans K11.out)
  have KB2 := Lib.hid ((((Below.refl _ _).alloc (Nat.le_refl _) (.cells #[.pointer none, .nilFunc, .nilFunc] 99)).block _ l2).trans K12.out)
  have hsf := run_store_func
  go_region_with (first
    | (go_at_call 50; refine (newP _).mono ?_; rintro e5 w5 ⟨rfl, hw5⟩; have K5 : w5.heap[w1.heap.size]? = some (.cells #[.pointer none, .nilFunc, .nilFunc] 99) := new_keeps hw5 (by { simp }) (heap_new w1 _); have g5 := box_cells K5; have f5 : ∀ o, w5.frozen? ⟨w1.heap.size, o, none⟩ = false := fun o => by { simp [World.frozen?, K5] }; have KK := Lib.hid K5; have K51 := Lib.hid (new_keeps hw5 (by { simp; omega }) KB1.out); have K52 := Lib.hid (new_keeps hw5 (by { simp; omega }) KB2.out); have g52 := box_cells K52.out; have l5 := heap_lt KK.out; have l52 := heap_lt K52.out; have N5 := Lib.hid hw5; clear K5 hw5)
    | (go_at_call 50; refine (newP _).mono ?_; rintro e5 w5 ⟨rfl, hw5⟩; have K51 := Lib.hid (new_keeps hw5 (show w.heap.size < w1.heap.size from l1) K11.out); have K52 := Lib.hid (new_keeps hw5 (show w.heap.size + 1 < w1.heap.size from l2) K12.out); have g52 := box_cells K52.out; have l52 := heap_lt K52.out; have N5 := Lib.hid hw5; clear hw5))
  all_goals
    have HG1 := Lib.hid (HG.out.below B1.out)
    have HV1 := Lib.hid (HV.out w1 B1.out)
    have hl0 : ([] : List UInt8).length + (t x).length ≤ 100000000 := by have := HL.out; simpa using this
    first
      | (have BX := Lib.hid (heap_new w5 (.cells #[.pointer (some ⟨w1.heap.size, 0, none⟩), .func (.func 27) #[] #[], .func (.func 28) #[] #[]] 99))
         have NB5 := Lib.hid (new_below N5.out (below_drew0 (Below.refl w1.heap.size w1)))
         have n6 := (Below.refl w5.heap.size w5).alloc (Nat.le_refl _) (.cells #[.pointer (some ⟨w1.heap.size, 0, none⟩), .func (.func 27) #[] #[], .func (.func 28) #[] #[]] 99)
         have SH := Lib.hid ((n6.block w1.heap.size (heap_lt (new_heap N5.out (q := w1.heap.size) rfl))).trans (new_heap N5.out (q := w1.heap.size) rfl))
         have P6 := Lib.hid (show PrI w1 w1.heap.size [] (w5.alloc (.cells #[.pointer (some ⟨w1.heap.size, 0, none⟩), .func (.func 27) #[] #[], .func (.func 28) #[] #[]] 99)) from ⟨(sp_of_heap SH.out).1, fun k hk => Nat.le_of_eq ((sp_of_heap SH.out).2 k hk).symm, NB5.out.trans (n6.mono NB5.out.size), HG1.out⟩)
         have hw5 := heap_lt (new_heap N5.out (q := w1.heap.size) rfl)
         have NB := Lib.hid (show ¬ S.Mine (w5.alloc (.cells #[.pointer (some ⟨w1.heap.size, 0, none⟩), .func (.func 27) #[] #[], .func (.func 28) #[] #[]] 99)) w1.heap.size w5.heap.size from fun m => by have := (sp_of_heap SH.out).2 _ m; omega)
         have K61 := Lib.hid ((n6.block _ (heap_lt K51.out)).trans K51.out)
         generalize (w5.alloc (.cells #[.pointer (some ⟨w1.heap.size, 0, none⟩), .func (.func 27) #[] #[], .func (.func 28) #[] #[]] 99)) = W6 at BX SH P6 NB K61 ⊢
         generalize w5.heap.size = b6 at BX NB ⊢
         clear n6 hw5)
      | (have SH5 := new_heap N5.out (q := w1.heap.size + 1) (by simp)
         have SH := Lib.hid ((set3_ne w5 w1.heap.size (w1.heap.size + 1) (by omega) (.pointer (some ⟨w1.heap.size + 1, 0, none⟩)) (.func (.func 27) #[] #[]) (.func (.func 28) #[] #[])).trans SH5)
         have BX := Lib.hid (heap_setC (o := 2) (heap_setC (o := 1) (heap_setC (o := 0) KK.out (.pointer (some ⟨w1.heap.size + 1, 0, none⟩))) (.func (.func 27) #[] #[])) (.func (.func 28) #[] #[]))
         have NB5 := Lib.hid (new_below N5.out (below_drew0 ((Below.refl w1.heap.size w1).alloc (Nat.le_refl _) _)))
         have P6 := Lib.hid (show PrI w1 (w1.heap.size + 1) [] (((w5.setCell ⟨w1.heap.size, 0, none⟩ (.pointer (some ⟨w1.heap.size + 1, 0, none⟩))).setCell ⟨w1.heap.size, 1, none⟩ (.func (.func 27) #[] #[])).setCell ⟨w1.heap.size, 2, none⟩ (.func (.func 28) #[] #[])) from ⟨(sp_of_heap SH.out).1, fun k hk => by have := (sp_of_heap SH.out).2 k hk; omega, (((NB5.out.setCell (p := ⟨w1.heap.size, 0, none⟩) (Nat.le_refl _) _).setCell (p := ⟨w1.heap.size, 1, none⟩) (Nat.le_refl _) _).setCell (p := ⟨w1.heap.size, 2, none⟩) (Nat.le_refl _) _), HG1.out⟩)
         have NB := Lib.hid (show ¬ S.Mine (((w5.setCell ⟨w1.heap.size, 0, none⟩ (.pointer (some ⟨w1.heap.size + 1, 0, none⟩))).setCell ⟨w1.heap.size, 1, none⟩ (.func (.func 27) #[] #[])).setCell ⟨w1.heap.size, 2, none⟩ (.func (.func 28) #[] #[])) (w1.heap.size + 1) w1.heap.size from fun m => by have := (sp_of_heap SH.out).2 _ m; omega)
         have K61 := Lib.hid ((set3_ne w5 w1.heap.size w.heap.size (by omega) (.pointer (some ⟨w1.heap.size + 1, 0, none⟩)) (.func (.func 27) #[] #[]) (.func (.func 28) #[] #[])).trans K51.out)
         generalize (((w5.setCell ⟨w1.heap.size, 0, none⟩ (.pointer (some ⟨w1.heap.size + 1, 0, none⟩))).setCell ⟨w1.heap.size, 1, none⟩ (.func (.func 27) #[] #[])).setCell ⟨w1.heap.size, 2, none⟩ (.func (.func 28) #[] #[])) = W6 at BX SH P6 NB K61 ⊢
         clear SH5)
    have gb := box_cells BX.out
    have ge := box_cells K61.out
    clear g1 g2
    go_wp2_with fail
    refine (HP.out w1 _ HG1.out _ HV1.out _ _ P6.out hl0).mono ?_
    rintro e w7 ⟨rfl, p7, d7⟩
    have P7 := Lib.hid p7
    have BX7 := Lib.hid (box_next BX.out NB.out d7)
    have gb7 := box_cells BX7.out.1
    have HB7 := Lib.hid (B1.out.trans (p7.lo.mono B1.out.size))
    obtain ⟨room7, s7, _⟩ := p7.sp.ex
    have HS7 := Lib.hid (S.string_any s7)
    clear p7 d7 s7
    go_wp2_with fail
    refine HS7.out.mono ?_
    rintro e w8 ⟨rfl, rfl⟩
    go_wp2_with fail
    exact bodyPost_ret (v := .tuple #[.string ⟨(t x).toArray⟩, .int .i64 0]) (by simp [results, Tryz.results26, go_sem]) rfl ⟨rfl, HB7.out⟩
set_option maxRecDepth 100000 in
set_option maxHeartbeats 1000000 in
theorem Print_ok {w : World} (hG : Gt w) {op n : Int} {nm fd : ByteArray} {a : Option Addr} {len c : Nat} {x : List D} (hv : AllAt w [.int .i64 op, .int .i64 n, .string nm, .string fd, .slice a len c] x) (hs : ShE x) (hc : codeOf (chkE 0 x) = 0) {t : List D → List UInt8} (hp : ∀ w0 q, Gt w0 → PrFn w0 q t x) (hl : (t x).length ≤ 100000000) :
    Calls Tryz.prog 13 #[exV op n nm fd a len c] w fun e w' => e = .returned (.tuple #[.string ⟨(t x).toArray⟩, .int .i64 0]) ∧ Below w.heap.size w w' := by
  have Z1 := (Below.refl w.heap.size w).alloc (Nat.le_refl _) (.cells #[.int .i64 op, .int .i64 n, .string nm, .string fd, .slice a len c] 25)
  have HP := Lib.hid (exPrint_ok (hG.below Z1) ((hv.sub (sub_low (fun _ => False) Z1 fun _ h => h.elim)).sub (mk_sub _ _)) hs hc hp hl)
  have K1 := Lib.hid (heap_new w (.cells #[.int .i64 op, .int .i64 n, .string nm, .string fd, .slice a len c] 25))
  have HZ := Lib.hid Z1
  generalize t x = tx at HP ⊢
  clear Z1 hG hv hs hc hp hl
  go_enter Tryz.func13, Tryz.ntmps13
  go_wp2_with fail
  generalize w.alloc (.cells #[.int .i64 op, .int .i64 n, .string nm, .string fd, .slice a len c] 25) = W0 at HP K1 HZ ⊢
  refine HP.out.mono ?_
  rintro e w1 ⟨rfl, b1⟩
  have B1 := Lib.hid (HZ.out.trans (b1.mono HZ.out.size))
  clear b1
  go_wp2_with fail
  exact bodyPost_ret (v := .tuple #[.string ⟨tx.toArray⟩, .int .i64 0]) (by simp [results, Tryz.results13, go_sem]) rfl ⟨rfl, B1.out⟩
end Go.Proofs.YtpcldpnaljheoaaGreatDoor
end
section
namespace Go.Proofs.YtpcldpnaljheoaaGreatDoor
open Go.RowKit Go.Deep

def prP : Nat → List D → List UInt8
  | 0, _ => []
  | k + 1, [.int op, .int _, .str nm, .str _, .row l] =>
    if op = 4 then nm.data.toList
    else match l with
      | [y] => if op = 8 ∨ op = 9 then ahdP op (prP k) y else []
      | [y, z] => if 10 ≤ op ∧ op ≤ 24 then btwP op (prP k) y z else []
      | _ => []
  | _ + 1, _ => []
inductive OkR : Nat → List D → Prop
  | var (k : Nat) (n : Int) (nm fd : ByteArray) (l : List (List D)) : nm.size ≤ maxLen → OkR (k + 1) [.int 4, .int n, .str nm, .str fd, .row l]
  | ahd (k : Nat) (op n : Int) (nm fd : ByteArray) (y : List D) : (op = 8 ∨ op = 9) → OkR k y → OkR (k + 1) [.int op, .int n, .str nm, .str fd, .row [y]]
  | btw (k : Nat) (op n : Int) (nm fd : ByteArray) (y z : List D) : (10 ≤ op ∧ op ≤ 24) → OkR k y → OkR k z → OkR (k + 1) [.int op, .int n, .str nm, .str fd, .row [y, z]]
theorem okR_op {k : Nat} {x : List D} (h : OkR k x) : opX x ≤ 24 := by
  cases h with
  | var k n nm fd l _ => show (4 : Int) ≤ 24; omega
  | ahd k op n nm fd y h _ => show op ≤ 24; omega
  | btw k op n nm fd y z h _ _ => exact h.2
theorem sgn_size (op : Int) : (sgnP op).t.size ≤ 100 := by
  have h : ∀ k, k < 15 → ((signsP[k]?).getD ⟨#[]⟩).size ≤ 100 := by decide
  unfold sgnP
  split
  · decide
  · split
    · decide
    · split
      · rename_i h3
        have := h (op - 10).toNat (by omega)
        unfold tabS
        split
        · exact this
        · split <;> exact this
      · decide
theorem pr_any {k : Nat} {x : List D} (hx : OkR k x) : ShE x → ∀ w0 q, PrFn w0 q (prP k) x := by
  induction hx with
  | var k n nm fd l hn =>
    intro hs w0 q vs hv acc W h hl
    obtain ⟨op', n', nm', fd', kl, kla, klc, e, rfl, _⟩ := hv.openE hs
    injection e with e1 e; injection e with e2 e; injection e with e3 e; injection e with e4 e
    injection e1 with e1; injection e3 with e3
    subst e1 e3
    exact pr_var hn h hl
  | ahd k op n nm fd y hop hy ih =>
    intro hs w0 q vs hv acc W h hl
    obtain ⟨op', n', nm', fd', kl, kla, klc, e, rfl, _, _, _, _, hA, hks⟩ := hv.openE hs
    injection e with e1 e; injection e with e2 e; injection e with e3 e; injection e with e4 e; injection e with e5 e
    injection e1 with e1; injection e5 with e5
    subst e1 e5
    have hpe : prP (k + 1) [.int op, .int n, .str nm, .str fd, .row [y]] = ahdP op (prP k) y := by
      unfold prP
      rw [if_neg (by omega)]
      dsimp only
      rw [if_pos hop]
    rw [hpe] at hl ⊢
    have hsy := hks y (List.mem_singleton.2 rfl)
    refine pr_ahead hop h fun U p => ?_
    exact ahead_any (ih hsy w0 q) hsy (okR_op hy) (by omega) hA rfl p hl (sgn_size op)
  | btw k op n nm fd y z hop hy hz ih ih' =>
    intro hs w0 q vs hv acc W h hl
    obtain ⟨op', n', nm', fd', kl, kla, klc, e, rfl, _, _, _, _, hA, hks⟩ := hv.openE hs
    injection e with e1 e; injection e with e2 e; injection e with e3 e; injection e with e4 e; injection e with e5 e
    injection e1 with e1; injection e5 with e5
    subst e1 e5
    have hpe : prP (k + 1) [.int op, .int n, .str nm, .str fd, .row [y, z]] = btwP op (prP k) y z := by
      unfold prP
      rw [if_neg (by omega)]
      dsimp only
      rw [if_pos hop]
    rw [hpe] at hl ⊢
    have hsy := hks y (by simp)
    have hsz := hks z (by simp)
    refine pr_between hop h fun U p => ?_
    exact between_any (ih hsy w0 q) (ih' hsz w0 q) hsy hsz (okR_op hy) (okR_op hz) hop.2 hA rfl rfl p hl (sgn_size op)
def bA : ByteArray := ⟨#[97]⟩
def bB : ByteArray := ⟨#[98]⟩
def bC : ByteArray := ⟨#[99]⟩
def xA : List D := mkE 4 0 bA noB []
def xB : List D := mkE 4 0 bB noB []
def xC' : List D := mkE 4 0 bC noB []
def xNegA : List D := mkE 8 0 noB noB [xA]
def xMul : List D := mkE 10 0 noB noB [xNegA, xB]
theorem okMul : OkR 3 xMul := .btw 2 10 0 noB noB xNegA xB (by omega) (.ahd 1 8 0 noB noB xA (.inl rfl) (.var 0 0 bA noB [] (by decide))) (.var 1 0 bB noB [] (by decide))
theorem prMul : prP 3 xMul = [40, 45, 97, 41, 32, 42, 32, 98] := by kernel_rfl
theorem chkMul : codeOf (chkE 0 xMul) = 0 := by kernel_rfl
def s0 : ByteArray := ⟨#[45, 97, 32, 42, 32, 98, 32, 43, 32, 99]⟩
theorem lex0 : (X.P.lexAll s0).code = 0 := by kernel_rfl
theorem par0 : (parX (tksOf s0) 0).2.f = 0 := by kernel_rfl
theorem parD0 : (parD (tksOf s0) 0).c = 0 := by kernel_rfl
theorem end0 : (endS s0).f = 0 := by kernel_rfl
theorem red0 : redX s0 = mkE 15 0 noB noB [mkE 8 0 noB noB [mkE 10 0 noB noB [xA, xB]], xC'] := by kernel_rfl
theorem redD0 : (redD s0).c = 0 := by
  unfold redD
  rw [if_neg (by rw [lex0]; decide), if_neg (by rw [parD0]; decide)]
  exact end0
end Go.Proofs.YtpcldpnaljheoaaGreatDoor
end
section
namespace Go.Proofs.YtpcldpnaljheoaaGreatDoor
open Go.RowKit Go.Deep

theorem row2_w {W : World} {b : Nat} {x y : List D} {vs us : List Value} {t : TypeId} {f : Nat × Nat} (hb : W.heap[b]? = some (.cells ⟨vs ++ us⟩ t f)) (hl : vs.length = us.length) (hx : AllAt W vs x) (hy : AllAt W us y) : At W (.slice (some ⟨b, 0, none⟩) 2 2) (.row [x, y]) :=
  (row2_at (P := fun _ => False) hb id hl (hx.sub (sub_low _ (Below.refl _ _) fun _ h => h.elim)) (hy.sub (sub_low _ (Below.refl _ _) fun _ h => h.elim))).sub (mk_sub _ W)
theorem shE_leaf (o n : Int) (a b : ByteArray) : ShE (mkE o n a b []) := .mk _ _ _ _ _ (by simp)
theorem shMul : ShE xMul := .mk _ _ _ _ _ fun z hz => by
  simp only [List.mem_cons, List.mem_nil_iff, or_false] at hz
  rcases hz with rfl | rfl
  · exact .mk _ _ _ _ _ fun z hz => by rw [List.mem_singleton.1 hz]; exact shE_leaf _ _ _ _
  · exact shE_leaf _ _ _ _
abbrev oA : Obj := .cells #[.int .i64 4, .int .i64 0, .string ⟨#[97]⟩, .string ⟨#[]⟩, .slice none 0 0] 25
abbrev oB (p : Nat) : Obj := .cells #[.int .i64 8, .int .i64 0, .string ⟨#[]⟩, .string ⟨#[]⟩, .slice (some ⟨p, 0, none⟩) 1 1, .int .i64 4, .int .i64 0, .string ⟨#[98]⟩, .string ⟨#[]⟩, .slice none 0 0] 25
theorem mul_at (W : World) : AllAt ((W.alloc oA).alloc (oB W.heap.size)) [.int .i64 10, .int .i64 0, .string ⟨#[]⟩, .string ⟨#[]⟩, .slice (some ⟨W.heap.size + 1, 0, none⟩) 2 2] xMul := by
  have k2 := heap_new (W.alloc oA) (oB W.heap.size)
  have e1 : (W.alloc oA).heap.size = W.heap.size + 1 := by simp
  rw [e1] at k2
  have k1 := (((Below.refl _ (W.alloc oA)).alloc (Nat.le_refl _) (oB W.heap.size)).block W.heap.size (by simp)).trans (heap_new W oA)
  generalize (W.alloc oA).alloc (oB W.heap.size) = U at k1 k2 ⊢
  have a1 := row1_w (x := xA) k1 (ExAt.leaf U (by omega) (by omega) (by omega) (by omega) (by decide) (by decide)).1
  have a2 := (ExAt.over (W := U) (op := 8) (n := 0) (nm := noB) (fd := noB) a1 (fun z hz => by rw [List.mem_singleton.1 hz]; exact shE_leaf _ _ _ _) (by omega) (by omega) (by omega) (by omega) (by decide) (by decide)).1
  have a3 := (ExAt.leaf U (op := 4) (n := 0) (nm := bB) (fd := noB) (by omega) (by omega) (by omega) (by omega) (by decide) (by decide)).1
  have a4 := row2_w (vs := [.int .i64 8, .int .i64 0, .string ⟨#[]⟩, .string ⟨#[]⟩, .slice (some ⟨W.heap.size, 0, none⟩) 1 1]) (us := [.int .i64 4, .int .i64 0, .string ⟨#[98]⟩, .string ⟨#[]⟩, .slice none 0 0]) (x := xNegA) (y := xB) k2 rfl a2 a3
  exact (ExAt.over (W := U) (op := 10) (n := 0) (nm := noB) (fd := noB) a4 (fun z hz => by cases shMul with | mk _ _ _ _ _ h => exact h z hz) (by omega) (by omega) (by omega) (by omega) (by decide) (by decide)).1
/-- What the text of the example is read as, in memory. -/
theorem ex0_at {w : World} {op n : Int} {nm fd : ByteArray} {a : Option Addr} {len c : Nat} (h : AllAt w [.int .i64 op, .int .i64 n, .string nm, .string fd, .slice a len c] (redX s0)) :
    ∃ b o la lc b2 o2, op = 15 ∧ n = 0 ∧ nm = noB ∧ fd = noB ∧ a = some ⟨b, o, none⟩ ∧ len = 2 ∧ b < w.heap.size ∧ w.cell? ⟨b, o, none⟩ = some (.int .i64 8) ∧ w.cell? ⟨b, o + 4, none⟩ = some (.slice la 1 lc) ∧ la = some ⟨b2, o2, none⟩ ∧ b2 < w.heap.size ∧ w.cell? ⟨b2, o2, none⟩ = some (.int .i64 10) := by
  rw [red0] at h
  have hsh : ShE (mkE 10 0 noB noB [xA, xB]) := .mk _ _ _ _ _ fun z hz => by
    simp only [List.mem_cons, List.mem_nil_iff, or_false] at hz
    rcases hz with rfl | rfl <;> exact shE_leaf _ _ _ _
  have hsn : ShE (mkE 8 0 noB noB [mkE 10 0 noB noB [xA, xB]]) := .mk _ _ _ _ _ fun z hz => by rw [List.mem_singleton.1 hz]; exact hsh
  obtain ⟨h0, h1, h2, h3, h4, _⟩ := h
  obtain ⟨e0, _⟩ := h0.int_inv
  injection e0 with _ e0
  obtain ⟨e1, _⟩ := h1.int_inv
  injection e1 with _ e1
  obtain ⟨e2, _⟩ := h2.str_inv
  injection e2 with e2
  obtain ⟨e3, _⟩ := h3.str_inv
  injection e3 with e3
  have hl := h4.len_eq.1
  obtain ⟨b, o, op1, n1, nm1, fd1, la1, ln1, lc1, rfl, hb, hv, c0, _, _, _, c4⟩ := h4.elemE (j := 0) rfl hsn
  obtain ⟨g0, _, _, _, g4, _⟩ := hv
  obtain ⟨f0, _⟩ := g0.int_inv
  injection f0 with _ f0
  have hl2 := g4.len_eq.1
  obtain ⟨b2, o2, op2, n2, nm2, fd2, la2, ln2, lc2, rfl, hb2, hv2, u0, _⟩ := g4.elemE (j := 0) rfl hsh
  obtain ⟨k0, _⟩ := hv2
  obtain ⟨r0, _⟩ := k0.int_inv
  injection r0 with _ r0
  rw [show o + 0 * 5 = o by omega] at c0 c4
  rw [show o2 + 0 * 5 = o2 by omega] at u0
  rw [f0] at c0
  rw [r0] at u0
  have hl2' : ln1 = 1 := by simpa using hl2.symm
  rw [hl2'] at c4
  exact ⟨b, o, _, lc1, b2, o2, e0, e1, e2, e3, rfl, by simpa using hl.symm, hb, c0, c4, rfl, hb2, u0⟩
set_option maxRecDepth 100000 in
set_option maxHeartbeats 4000000 in
theorem awake_any (w : World) (hG : Gt w) : Calls Tryz.prog 9 #[] w fun e w' => e = .returned (.bool true) ∧ Below w.heap.size w w' := by
  have HR := Lib.hid (Read_any s0 w hG)
  unfold ReadPost s0 at HR
  have HG := Lib.hid hG
  clear hG
  go_enter Tryz.func9, Tryz.ntmps9
  go_wp2_with fail
  refine HR.out.mono ?_
  rintro e w1 ⟨b1, h1⟩
  have hrd : (redD s0).c = 0 := redD0
  rcases h1 with ⟨h1, _⟩ | ⟨_, op, n, nm, fd, a, len, c, rfl, h2, h3⟩
  · exact absurd hrd h1
  · obtain ⟨b, o, la, lc, b2, o2, rfl, rfl, rfl, rfl, rfl, rfl, hb, c0, c4, rfl, hb2, c1⟩ := ex0_at (h2.sub (mk_sub _ _))
    have B1 := Lib.hid b1
    have HC := Lib.hid (And.intro c0 (And.intro c4 c1))
    have HB := Lib.hid (And.intro hb hb2)
    clear h2 h3 b1 hrd HR c0 c4 c1 hb hb2
    unfold dgV noB
    have Z1 := (Below.refl w1.heap.size w1).alloc (Nat.le_refl _) (.cells #[.int .i64 15, .int .i64 0, .string ⟨#[]⟩, .string ⟨#[]⟩, .slice (some ⟨b, o, none⟩) 2 c] 25)
    have Z2 := Z1.alloc Z1.size (.cells #[.int .i64 0, .int .i64 0, .int .i64 0, .int .i64 0] 30)
    have hz : ((w1.alloc (.cells #[.int .i64 15, .int .i64 0, .string ⟨#[]⟩, .string ⟨#[]⟩, .slice (some ⟨b, o, none⟩) 2 c] 25)).alloc (.cells #[.int .i64 0, .int .i64 0, .int .i64 0, .int .i64 0] 30)).heap.size = w1.heap.size + 1 + 1 := by simp
    have Z3 := Z2.alloc Z2.size oA
    have Z4 := Z3.alloc Z3.size (oB (w1.heap.size + 1 + 1))
    have HA := mul_at ((w1.alloc (.cells #[.int .i64 15, .int .i64 0, .string ⟨#[]⟩, .string ⟨#[]⟩, .slice (some ⟨b, o, none⟩) 2 c] 25)).alloc (.cells #[.int .i64 0, .int .i64 0, .int .i64 0, .int .i64 0] 30))
    rw [hz] at HA
    have m4 := ((Below.refl _ ((w1.alloc (.cells #[.int .i64 15, .int .i64 0, .string ⟨#[]⟩, .string ⟨#[]⟩, .slice (some ⟨b, o, none⟩) 2 c] 25)).alloc (.cells #[.int .i64 0, .int .i64 0, .int .i64 0, .int .i64 0] 30))).alloc (Nat.le_refl _) oA).alloc (by simp) (oB (w1.heap.size + 1 + 1))
    rw [hz] at m4
    have hE := (((Below.refl _ (w1.alloc (.cells #[.int .i64 15, .int .i64 0, .string ⟨#[]⟩, .string ⟨#[]⟩, .slice (some ⟨b, o, none⟩) 2 c] 25))).alloc (Nat.le_refl _) (.cells #[.int .i64 0, .int .i64 0, .int .i64 0, .int .i64 0] 30)).block w1.heap.size (by simp)).trans (heap_new w1 (.cells #[.int .i64 15, .int .i64 0, .string ⟨#[]⟩, .string ⟨#[]⟩, .slice (some ⟨b, o, none⟩) 2 c] 25))
    have hD := heap_new (w1.alloc (.cells #[.int .i64 15, .int .i64 0, .string ⟨#[]⟩, .string ⟨#[]⟩, .slice (some ⟨b, o, none⟩) 2 c] 25)) (.cells #[.int .i64 0, .int .i64 0, .int .i64 0, .int .i64 0] 30)
    rw [show (w1.alloc (.cells #[.int .i64 15, .int .i64 0, .string ⟨#[]⟩, .string ⟨#[]⟩, .slice (some ⟨b, o, none⟩) 2 c] 25)).heap.size = w1.heap.size + 1 by simp] at hD
    have K1 := Lib.hid ((m4.block w1.heap.size (by omega)).trans hE)
    have K2 := Lib.hid ((m4.block (w1.heap.size + 1) (by omega)).trans hD)
    have B4 := Lib.hid Z4
    have HP := Print_ok (HG.out.below (B1.out.trans (Z4.mono B1.out.size))) HA shMul chkMul (fun w0 q _ => pr_any okMul shMul w0 q) (by rw [prMul]; decide)
    rw [prMul] at HP
    have HPR := Lib.hid HP
    clear Z1 Z2 hz Z3 Z4 HA m4 hE hD HP HG
    go_wp2_with fail
    generalize ((((w1.alloc (.cells #[.int .i64 15, .int .i64 0, .string ⟨#[]⟩, .string ⟨#[]⟩, .slice (some ⟨b, o, none⟩) 2 c] 25)).alloc (.cells #[.int .i64 0, .int .i64 0, .int .i64 0, .int .i64 0] 30)).alloc oA).alloc (oB (w1.heap.size + 1 + 1))) = W4 at HPR K1 K2 B4 ⊢
    refine HPR.out.mono ?_
    rintro e w2 ⟨rfl, bb⟩
    have B5 := Lib.hid (B4.out.trans (bb.mono B4.out.size))
    have K11 := Lib.hid ((bb.block _ (heap_lt K1.out)).trans K1.out)
    have K12 := Lib.hid ((bb.block _ (heap_lt K2.out)).trans K2.out)
    have g1 := box_cells K11.out
    have g2 := box_cells K12.out
    have u0 : w2.cell? ⟨b, o, none⟩ = some (.int .i64 8) := (B5.out.cell (p := ⟨b, o, none⟩) HB.out.1).trans HC.out.1
    have u4 : w2.cell? ⟨b, o + 4, none⟩ = some (.slice (some ⟨b2, o2, none⟩) 1 lc) := (B5.out.cell (p := ⟨b, o + 4, none⟩) HB.out.1).trans HC.out.2.1
    have u1 : w2.cell? ⟨b2, o2, none⟩ = some (.int .i64 10) := (B5.out.cell (p := ⟨b2, o2, none⟩) HB.out.2).trans HC.out.2.2
    have HF := Lib.hid (B1.out.trans (B5.out.mono B1.out.size))
    clear bb K1 K2 B4 HPR HC HB B1 B5
    go_wp2_with fail
    go_ret
    exact ⟨rfl, HF.out⟩
end Go.Proofs.YtpcldpnaljheoaaGreatDoor
end
section
namespace Go.Proofs.YtpcldpnaljheoaaGreatDoor
open Go.ChangeShapes Go.WideShapes Go.ChangeAt Go.RowKit

theorem own : ownKnob Tryz.prog.godebug = none := by kernel_rfl
theorem laidOut : laidOutB Tryz.prog = true := by kernel_rfl
def tabs : List (String × DataW Unit) := [("math/bits.deBruijn32tab", Rows.laid_math_bits_deBruijn32tab), ("math/bits.deBruijn64tab", Rows.laid_math_bits_deBruijn64tab), ("internal/strconv.uint64pow10", Rows.laid_internal_strconv_uint64pow10), ("unicode/utf8.acceptRanges", Rows.laid_unicode_utf8_acceptRanges), ("pantograph/expr.truths", Rows.laid_pantograph_expr_truths), ("pantograph/exprpas.signs", Rows.laid_pantograph_exprpas_signs), ("unicode.CaseRanges", Rows.laid_unicode_CaseRanges), ("unicode/utf8.first", Rows.laid_unicode_utf8_first)]
noncomputable def laidWorld (os : Os) : World := World.laidAll Tryz.prog os tabs
theorem laid_fits (os : Os) : (World.holding Tryz.prog os ⟨#[], #[], []⟩).layFits Tryz.prog tabs [] = true := by kernel_rfl
theorem laid_ifaces (os : Os) : (World.holding Tryz.prog os ⟨#[], #[], []⟩).layIfaces Tryz.prog tabs (World.laidAll Tryz.prog os tabs) = true := by kernel_rfl
theorem laid_all (os : Os) (args : Array Value) : laidMet Tryz.prog tabs ((laidWorld os).forCall (fun _ _ => 0) ⟨#[], args, []⟩).memory := laidMet_laidAll args (laid_fits os) (laid_ifaces os)
theorem shaped (os : Os) (args : Array Value) : ((laidWorld os).forCall (fun _ _ => 0) ⟨#[], args, []⟩).Shaped Tryz.prog := World.shaped_of_ZipB (by kernel_rfl) (by kernel_rfl)
/-- There is an input that fits. -/
theorem fits {H : Type} {enc : TypeId × Value → H} {os : Os} {f : FuncId} {fn : Func} {sp : OpenSpec} {conds : List PathCond} {apart : Bool} (args : Array Value)
    (hok : Input.okWideB Tryz.prog ((laidWorld os).forCall (fun _ _ => 0) ⟨#[], args, []⟩) f ⟨#[], args, []⟩ = true)
    (hrow : sp.preRow enc Tryz.prog fn conds apart tabs ((laidWorld os).forCall (fun _ _ => 0) ⟨#[], args, []⟩).memory args) :
    ∃ (w : World) (tape : Tape) (i : Input), w.os = os ∧ (w.forCall tape i).Shaped Tryz.prog ∧ i.vars = [] ∧ Input.okWide Tryz.prog (w.forCall tape i) .any w.heap.size f i ∧
      sp.preRow enc Tryz.prog fn conds apart tabs (w.forCall tape i).memory i.args ∧ ({ modest := false } : Assume).holds Tryz.prog (lone (Frame.enter Tryz.prog f i.args .normal) [] (w.forCall tape i)) :=
  ⟨laidWorld os, fun _ _ => 0, ⟨#[], args, []⟩, World.laidAll_os _ _ _, shaped os args, (Input.okWide_of_okWideB (base := 0) hok).1, (Input.okWide_of_okWideB hok).2, hrow, by
    simp [Assume.holds]⟩
def strData {H : Type} (xs : List (List UInt8)) : DataW H := .agg (xs.map fun s => .lit (.string s))
/-- An array of texts that reads as a table holds the table's texts. -/
theorem cells_of_strs {H : Type} {enc : TypeId × Value → H} {P : Program} {w : World} {base : Nat} {sp : Nat → Bool} {held : Bool} {fuel : Nat} {t e : TypeId} {n : Nat} {cs : List Value} {xs : List (List UInt8)} {p : List MemPlace}
    (ht : P.underlying t = some (.array n e)) (he : P.underlying e = some .string) (hce : P.cellsOf e = 1) (hct : P.cellsOf t = n)
    (h : DataW.trod enc P w base sp held fuel t cs = some (strData xs, p)) : cs = xs.map fun s => Value.string ⟨s.toArray⟩ := by
  cases fuel with
  | zero => simp [DataW.trod] at h
  | succ fuel =>
    simp only [DataW.trod, ht, hce, hct, Nat.mul_one] at h
    split at h
    · rename_i hl
      obtain ⟨ys, hm, hx⟩ := Option.map_eq_some_iff.1 h
      have hxs : ys.map (·.1) = xs.map fun s => (DataW.lit (.string s) : DataW H) := by
        have := congrArg Prod.fst hx
        simpa [strData] using this
      have hxl : ys.length = n := by simpa using Lib.mapM_length hm
      have hzl : xs.length = n := by
        have := congrArg List.length hxs
        simp at this
        omega
      apply List.ext_getElem?
      intro i
      by_cases hi : i < n
      · obtain ⟨b, hb, hf⟩ := Lib.mapM_at hm i i (by simp [hi])
        obtain ⟨s, hc, rfl, _⟩ := DataW.trod_string he hf
        have h1 : cs[i]? = some (.string s) := by
          have := congrArg (·[0]?) hc
          simpa [List.getElem?_take, List.getElem?_drop] using this
        have h2 : (ys.map (·.1))[i]? = some (DataW.lit (.string s.data.toList) : DataW H) := by simp [hb]
        rw [hxs] at h2
        simp only [List.getElem?_map, Option.map_eq_some_iff, DataW.lit.injEq, Lit.string.injEq] at h2
        obtain ⟨z', hz', e⟩ := h2
        rw [h1, List.getElem?_map, hz', e]
        rfl
      · rw [List.getElem?_eq_none (by omega), List.getElem?_eq_none (by simp; omega)]
    · cases h
theorem strs_of_head {P : Program} {W : World} {name : String} {xs : List (List UInt8)} {rest : List (String × DataW Unit)} {g : Nat} {t e : TypeId} {n : Nat}
    (hg : P.globalNamed name = some g) (hty : (P.globals[g]?).map (·.type) = some t) (ht : P.underlying t = some (.array n e)) (he : P.underlying e = some .string) (hce : P.cellsOf e = 1) (hct : P.cellsOf t = n)
    (h : laidMet P ((name, strData xs) :: rest) W) (i : Nat) (x : List UInt8) (hx : xs[i]? = some x) : W.cell? ⟨g, i, none⟩ = some (.string ⟨x.toArray⟩) := by
  obtain ⟨ps, ⟨g', t', cs, fuel, p, q, hg', ht', hvar, hd, _, _⟩, _⟩ := h
  obtain rfl := Option.some.inj (hg.symm.trans hg')
  obtain rfl := Option.some.inj (hty.symm.trans ht')
  have := World.var?_cell hg hvar i
  rw [this, ← Array.getElem?_toList, cells_of_strs ht he hce hct hd]
  simp [hx]
theorem gSig : Tryz.prog.globalNamed "pantograph/exprpas.signs" = some 0 := by kernel_rfl
theorem gSigT : (Tryz.prog.globals[0]?).map (·.type) = some 104 := by kernel_rfl
theorem gTru : Tryz.prog.globalNamed "pantograph/expr.truths" = some 1 := by kernel_rfl
theorem gTruT : (Tryz.prog.globals[1]?).map (·.type) = some 148 := by kernel_rfl
theorem gD64 : Tryz.prog.globalNamed "math/bits.deBruijn64tab" = some 8 := by kernel_rfl
theorem cellsSig : Tryz.prog.cellsOf 104 = 25 := by kernel_rfl
theorem cellsTru : Tryz.prog.cellsOf 148 = 2 := by kernel_rfl
theorem cells9 : Tryz.prog.cellsOf 9 = 1 := by kernel_rfl
theorem gt_of {W : World} (h : laidMet Tryz.prog tabs W) : Gt W := by
  have h4 := h.tail.tail.tail.tail
  have h5 := h4.tail
  have hs := strs_of_head (xs := [[], [], [], [], [], [], [], [], [], [], [42], [100, 105, 118], [109, 111, 100], [97, 110, 100], [97, 110, 100, 32, 116, 104, 101, 110], [43], [45], [111, 114], [111, 114, 32, 101, 108, 115, 101], [61], [60, 62], [60], [60, 61], [62], [62, 61]]) gSig gSigT Tryz.underlying104 Tryz.underlying9 cells9 cellsSig h5
  have ht := strs_of_head (xs := [[102, 97, 108, 115, 101], [116, 114, 117, 101]]) gTru gTruT Tryz.underlying148 Tryz.underlying9 cells9 cellsTru h4
  refine ⟨?_, fun k x hx => ?_, ht 0 _ rfl, ht 1 _ rfl⟩
  · obtain ⟨ps, ⟨g', t', cs, fuel, p, q, hg', ht', hvar, hd, _, _⟩, _⟩ := h.tail
    obtain rfl := Option.some.inj (gD64.symm.trans hg')
    rcases Nat.lt_or_ge 8 W.heap.size with g | g
    · exact g
    · simp only [World.var?, gD64, Option.bind_some] at hvar
      rw [Array.getElem?_eq_none g] at hvar
      cases hvar
  · have hk : k < 15 := (List.getElem?_eq_some_iff.1 hx).1
    refine hs (10 + k) x.data.toList ?_
    have : ∀ j, j < 15 → ([[], [], [], [], [], [], [], [], [], [], [42], [100, 105, 118], [109, 111, 100], [97, 110, 100], [97, 110, 100, 32, 116, 104, 101, 110], [43], [45], [111, 114], [111, 114, 32, 101, 108, 115, 101], [61], [60, 62], [60], [60, 61], [62], [62, 61]] : List (List UInt8))[10 + j]? = (signsP[j]?).map (·.data.toList) := by decide
    rw [this k hk, hx]
    rfl
end Go.Proofs.YtpcldpnaljheoaaGreatDoor
end
section
namespace Go.Proofs.YtpcldpnaljheoaaGreatDoor
open Go.RowKit Go.Deep

set_option maxHeartbeats 400000 in
theorem pick_any (x n : Int) (w : World) (h0 : -9223372036854775808 ≤ x) (h1 : x ≤ 9223372036854775807) (hn : 1 ≤ n) (hn2 : n ≤ 1000000) :
    Calls Tryz.prog 18 #[.int .i64 x, .int .i64 n] w fun e w' => e = .returned (.int .i64 (x % n)) ∧ w = w' := by
  have hne : (n == 0) = false := by simp; omega
  by_cases hx : 0 ≤ x
  · have e : x.tmod n = x % n := Int.tmod_eq_emod_of_nonneg hx
    have b1 := Int.emod_nonneg x (show n ≠ 0 by omega)
    have b2 := Int.emod_lt_of_pos x (show 0 < n by omega)
    go_enter Tryz.func18, Tryz.ntmps18
    go_wp2_with fail
    go_ret
    exact ⟨rfl, rfl⟩
  · obtain ⟨y, rfl⟩ : ∃ y, x = -y := ⟨-x, by omega⟩
    have hy : 0 ≤ y := by omega
    have e : (-y).tmod n = -(y % n) := by rw [Int.neg_tmod, Int.tmod_eq_emod_of_nonneg hy]
    have b1 := Int.emod_nonneg y (show n ≠ 0 by omega)
    have b2 := Int.emod_lt_of_pos y (show 0 < n by omega)
    have hd := Int.emod_add_mul_ediv y n
    generalize hq : y % n = q at *
    have HQ := Lib.hid hq
    have HD := Lib.hid hd
    clear hq hd
    by_cases h0q : q = 0
    · subst h0q
      have er : (-y) % n = 0 := by
        have := HD.out
        rw [show -y = 0 + n * (-(y / n)) by rw [Int.mul_neg]; omega, Int.add_mul_emod_self_left]
        simp
      rw [er]
      have e' : (-y).tmod n = 0 := by rw [e]; rfl
      clear e er HQ HD
      go_enter Tryz.func18, Tryz.ntmps18
      go_wp2_with fail
      go_ret
      exact ⟨rfl, rfl⟩
    · have er : (-y) % n = n - q := by
        have := HD.out
        rw [show -y = (n - q) + n * (-(y / n) - 1) by rw [Int.mul_sub, Int.mul_neg]; omega, Int.add_mul_emod_self_left]
        exact Int.emod_eq_of_lt (by omega) (by omega)
      rw [er]
      have hneg : -q < 0 := by omega
      clear er HQ HD
      go_enter Tryz.func18, Tryz.ntmps18
      go_wp2_with fail
      go_ret
      exact ⟨by rw [show -q + n = n - q by omega]; rfl, rfl⟩

/-- A place in a list. -/
theorem pick_at (x : Int) (n : Nat) (w : World) (h0 : -9223372036854775808 ≤ x) (h1 : x ≤ 9223372036854775807) (hn : 1 ≤ n) (hn2 : n ≤ 1000000) :
    ∃ k : Nat, k < n ∧ Calls Tryz.prog 18 #[.int .i64 x, .int .i64 (n : Nat)] w fun e w' => e = .returned (.int .i64 (k : Nat)) ∧ w = w' := by
  have b1 := Int.emod_nonneg x (show (n : Int) ≠ 0 by omega)
  have b2 := Int.emod_lt_of_pos x (show (0 : Int) < n by omega)
  refine ⟨(x % (n : Int)).toNat, by omega, ?_⟩
  have h := pick_any x n w h0 h1 (by omega) (by omega)
  rwa [show x % (n : Int) = (((x % (n : Int)).toNat : Nat) : Int) by omega] at h
end Go.Proofs.YtpcldpnaljheoaaGreatDoor
end
section
namespace Go.Proofs.YtpcldpnaljheoaaGreatDoor
open Go.RowKit

/-- What an expression's last token may be. -/
def lastB (b : Bt) : Prop := b.kind = 1 ∨ b.kind = 3 ∨ b.kind = 4 ∨ isB b [⟨#[41]⟩, ⟨#[93]⟩, trueB, falseB] = true
theorem der_last {k : Nat} {T : List Bt} {e : List D} (h : Der k T e) : ∃ T' b, T = T' ++ [b] ∧ lastB b := by
  induction h with
  | int t h => exact ⟨[], t, rfl, .inr (.inl h)⟩
  | chr t h => exact ⟨[], t, rfl, .inr (.inr (.inl h))⟩
  | fls t h => exact ⟨[], t, rfl, .inr (.inr (.inr (isB_sub h (by decide))))⟩
  | tru t h => exact ⟨[], t, rfl, .inr (.inr (.inr (isB_sub h (by decide))))⟩
  | no t T e h _ ih => obtain ⟨T', b, rfl, hb⟩ := ih; exact ⟨t :: T', b, rfl, hb⟩
  | par t u T e h _ hu ih => exact ⟨t :: T, u, rfl, .inr (.inr (.inr (isB_sub hu (by decide))))⟩
  | var t h => exact ⟨[], t, rfl, .inl h⟩
  | idx t u v T e _ _ _ hv ih => exact ⟨t :: u :: T, v, rfl, .inr (.inr (.inr (isB_sub hv (by decide))))⟩
  | fld t u v _ _ hv => exact ⟨[t, u], v, rfl, .inl hv⟩
  | call0 t u v _ _ hv => exact ⟨[t, u], v, rfl, .inr (.inr (.inr (isB_sub hv (by decide))))⟩
  | call t u T l _ _ _ ih => obtain ⟨T', b, rfl, hb⟩ := ih; exact ⟨t :: u :: T', b, rfl, hb⟩
  | last u T e _ hu ih => exact ⟨T, u, rfl, .inr (.inr (.inr (isB_sub hu (by decide))))⟩
  | more u T T' e l _ _ _ ih ih' => obtain ⟨T2, b, rfl, hb⟩ := ih'; exact ⟨T ++ u :: T2, b, by simp, hb⟩
  | up3 T e _ ih => exact ih
  | up2 T e _ ih => exact ih
  | up1 T e _ ih => exact ih
  | mul T S T' o a b _ hS _ ih ih' => obtain ⟨T2, c, rfl, hb⟩ := ih'; exact ⟨T ++ (S ++ T2), c, by simp, hb⟩
  | neg t T e h _ ih => obtain ⟨T', b, rfl, hb⟩ := ih; exact ⟨t :: T', b, rfl, hb⟩
  | add T S T' o a b _ hS _ ih ih' => obtain ⟨T2, c, rfl, hb⟩ := ih'; exact ⟨T ++ (S ++ T2), c, by simp, hb⟩
  | cmp T S T' o a b _ hS _ ih ih' => obtain ⟨T2, c, rfl, hb⟩ := ih'; exact ⟨T ++ (S ++ T2), c, by simp, hb⟩
theorem lastB_no {b : Bt} (h : lastB b) : b.kind ≠ 0 ∧ isB b [⟨#[42]⟩] = false := by
  rcases h with h | h | h | h
  · exact ⟨by omega, isB_kind (by omega) (by omega) _⟩
  · exact ⟨by omega, isB_kind (by omega) (by omega) _⟩
  · exact ⟨by omega, isB_kind (by omega) (by omega) _⟩
  · exact ⟨by have := ((isB_iff _ _).1 h).1; omega, isB_no h (by decide)⟩
/-- Tokens that end with a sign of two operands are no expression. -/
theorem star_no {l : List Tok} {t u : Tok} (ht : isB (btk t) [⟨#[42]⟩] = true) (hu : u.kind = 0) (hl : ∀ x ∈ l, x.kind ≠ 0) :
    (parD (l ++ [t, u]) 0).c ≠ 0 ∨ (needEndS (l ++ [t, u]) ⟨(parX (l ++ [t, u]) 0).2.k, 0, 0, 0, 0⟩).f ≠ 0 := by
  have G := parX_good (l ++ [t, u]) 0
  unfold parD
  generalize parX (l ++ [t, u]) 0 = x at G ⊢
  by_cases hf : x.2.f = 0
  · right
    obtain ⟨k1, k2, d⟩ := G rfl hf
    have k1' : 0 < x.2.k := k1
    rw [List.length_append, show [t, u].length = 2 from rfl] at k2
    obtain ⟨T', b, e, hb⟩ := der_last d
    have hlast : (seg (l ++ [t, u]) 0 x.2.k)[x.2.k - 1]? = some b := by
      have hlen : (seg (l ++ [t, u]) 0 x.2.k).length = x.2.k := by
        unfold seg
        rw [List.length_map, List.length_take, List.length_drop, List.length_append]
        show min (x.2.k - 0) (l.length + 2 - 0) = x.2.k
        omega
      have hT : T'.length = x.2.k - 1 := by
        have := congrArg List.length e
        rw [show (RS.mk 0 0 0 0 0).k = 0 from rfl, hlen, List.length_append, List.length_singleton] at this
        omega
      rw [show seg (l ++ [t, u]) 0 x.2.k = T' ++ [b] from e, List.getElem?_append_right (by omega), hT]
      simp
    have hseg : (seg (l ++ [t, u]) 0 x.2.k)[x.2.k - 1]? = ((l ++ [t, u])[x.2.k - 1]?).map btk := by
      unfold seg
      rw [List.getElem?_map, List.getElem?_take_of_lt (by omega), List.drop_zero]
    rw [hseg] at hlast
    have hno := lastB_no hb
    unfold needEndS
    have hcur : (cur (l ++ [t, u]) ⟨x.2.k, 0, 0, 0, 0⟩).kind ≠ 0 := by
      unfold cur
      rw [if_pos rfl]
      dsimp only
      by_cases h1 : x.2.k < l.length
      · rw [List.getElem?_append_left h1, List.getElem?_eq_getElem h1]
        exact hl _ (List.getElem_mem h1)
      · by_cases h2 : x.2.k = l.length
        · rw [List.getElem?_append_right (by omega), h2, Nat.sub_self]
          have := ((isB_iff _ _).1 ht).1
          show t.kind ≠ 0
          have ht2 : (btk t).kind = t.kind := rfl
          rw [ht2] at this
          omega
        · exfalso
          by_cases h3 : x.2.k = l.length + 1
          · rw [h3, show l.length + 1 - 1 = l.length by omega, List.getElem?_append_right (Nat.le_refl _), Nat.sub_self] at hlast
            have hb' : btk t = b := by simpa using hlast
            rw [← hb', ht] at hno
            exact absurd hno.2 (by decide)
          · have h4 : x.2.k = l.length + 2 := by omega
            rw [h4, show l.length + 2 - 1 = l.length + 1 by omega, List.getElem?_append_right (by omega), show l.length + 1 - l.length = 1 by omega] at hlast
            have hb' : btk u = b := by simpa using hlast
            rw [← hb'] at hno
            exact hno.1 hu
    rw [if_neg hcur]
    exact refuse_ne _ _
  · left
    unfold ansD
    rw [if_neg hf]
    exact hf
end Go.Proofs.YtpcldpnaljheoaaGreatDoor
end
section
namespace Go.Proofs.YtpcldpnaljheoaaGreatDoor
open Go.RowKit

theorem tw_all {p : UInt8 → Bool} : ∀ (l : List UInt8), (l.takeWhile p).length = l.length → ∀ x ∈ l, p x = true
  | [], _, x, hx => by simp at hx
  | c :: r, h, x, hx => by
    by_cases hc : p c = true
    · rw [List.takeWhile_cons, if_pos hc, List.length_cons, List.length_cons] at h
      rcases List.mem_cons.1 hx with rfl | hx
      · exact hc
      · exact tw_all r (by omega) x hx
    · rw [List.takeWhile_cons, if_neg hc] at h
      simp at h
theorem rd_last : ∀ (l : List UInt8) (sh : Bool) (acc : List UInt8) (u : Nat), (X.rd 0 l sh acc u).2.2 = 0 → l[(X.rd 0 l sh acc u).2.1 - u - 1]? = some 125 := by
  intro l
  induction l with
  | nil => intro sh acc u h; cases sh <;> simp [X.rd] at h
  | cons c r ih =>
    intro sh acc u h
    cases sh with
    | true =>
      simp only [X.rd] at h ⊢
      split at h
      · rename_i h1
        rw [if_pos h1]
        split at h
        · simp at h
        · rename_i h2
          rw [if_neg h2]
          have h3 := ih _ _ _ h
          have h4 := X.P.rd_use 0 rfl r false (acc ++ [c]) (u + 1) h
          rw [show (X.rd 0 r false (acc ++ [c]) (u + 1)).2.1 - u - 1 = ((X.rd 0 r false (acc ++ [c]) (u + 1)).2.1 - (u + 1) - 1) + 1 by omega, List.getElem?_cons_succ]
          exact h3
      · simp at h
    | false =>
      simp only [X.rd] at h ⊢
      split at h
      · rename_i h1
        rw [if_pos h1]
        have hc : (125 : UInt8) = c := by rw [X.clos0] at h1; simpa using h1
        rw [← hc]
        simp [X.clL]
      · rename_i h1
        rw [if_neg h1]
        split at h
        · rename_i h2
          rw [if_pos h2]
          have h3 := ih _ _ _ h
          have h4 := X.P.rd_use 0 rfl r true acc (u + 1) h
          rw [show (X.rd 0 r true acc (u + 1)).2.1 - u - 1 = ((X.rd 0 r true acc (u + 1)).2.1 - (u + 1) - 1) + 1 by omega, List.getElem?_cons_succ]
          exact h3
        · rename_i h2
          rw [if_neg h2]
          split at h
          · simp at h
          · rename_i h3
            rw [if_neg h3]
            split at h
            · simp at h
            · rename_i h4
              rw [if_neg h4]
              have h5 := ih _ _ _ h
              have h6 := X.P.rd_use 0 rfl r false (acc ++ [c]) (u + 1) h
              rw [show (X.rd 0 r false (acc ++ [c]) (u + 1)).2.1 - u - 1 = ((X.rd 0 r false (acc ++ [c]) (u + 1)).2.1 - (u + 1) - 1) + 1 by omega, List.getElem?_cons_succ]
              exact h5
theorem signs_star : ∀ g ∈ X.P.signs, g[g.length - 1]? = some 42 → g = [42] := by decide
/-- A token that goes on to the star at the end is the star. -/
theorem tok_star (c : UInt8) (r : List UInt8) (h : (X.P.tokL (c :: r)).err = 0) (hu : (X.P.tokL (c :: r)).used = r.length + 1) (hl : (c :: r)[r.length]? = some 42) : (X.P.tokL (c :: r)).kind = 5 ∧ (X.P.tokL (c :: r)).text = [42] := by
  have hmem : (42 : UInt8) ∈ c :: r := List.mem_of_getElem? hl
  rw [X.P.tokL_cons] at h hu ⊢
  split
  · rename_i h1
    exfalso
    rw [if_pos h1] at h hu
    have hc : c = 123 := by simpa using h1
    subst hc
    unfold X.P.noteL at h hu
    rw [X.P.read_cons] at h hu
    split at h
    · rename_i h2
      rw [if_pos h2] at hu
      have h3 := rd_last r false [] 1 h2
      have h4 := X.P.rd_use 0 rfl r false [] 1 h2
      have hu' : (X.rd 0 r false [] 1).2.1 = r.length + 1 := hu
      rw [hu'] at h3 h4
      match hr : r, h3, hl with
      | [], h3, _ => simp at h4
      | x :: y, h3, hl =>
        rw [List.length_cons, show y.length + 1 + 1 - 1 - 1 = y.length by omega] at h3
        rw [List.length_cons, List.getElem?_cons_succ, h3] at hl
        exact absurd hl (by decide)
    · rename_i h2; exact absurd h h2
  · rename_i h1
    rw [if_neg h1] at h hu
    split
    · rename_i h2
      exfalso
      rw [if_pos h2] at h hu
      unfold X.P.intL at h hu
      split at h
      · simp [X.P.bad] at h
      · rename_i h3
        rw [if_neg h3] at hu
        have := tw_all (c :: r) hu 42 hmem
        exact absurd this (by decide)
    · rename_i h2
      rw [if_neg h2] at h hu
      split
      · rename_i h3
        exfalso
        rw [if_pos h3] at h hu
        unfold X.P.nameL at h hu
        split at h
        · simp [X.P.bad] at h
        · rename_i h4
          rw [if_neg h4] at hu
          have := tw_all (c :: r) hu 42 hmem
          exact absurd this (by decide)
      · rename_i h3
        rw [if_neg h3] at h hu
        split
        · rename_i h4
          exfalso
          rw [if_pos h4] at h hu
          unfold X.P.quoteL at h hu
          split at h
          · rename_i h5
            rw [if_pos h5] at hu
            have hp := List.isPrefixOf_iff_prefix.1 h5
            obtain ⟨t, ht⟩ := hp
            have hr3 : r.length = 3 := by have : 4 = r.length + 1 := hu; omega
            rw [← ht, hr3] at hl
            exact absurd hl (by simp)
          · rename_i h5
            rw [if_neg h5] at hu
            split at h
            · rename_i h6
              rw [if_pos h6] at hu
              have hr2 : r.length = 2 := by have : 3 = r.length + 1 := hu; omega
              rw [Bool.and_eq_true] at h6
              have h7 := h6.2
              rw [hr2] at hl
              rw [List.getD_eq_getElem?_getD, hl] at h7
              exact absurd h7 (by decide)
            · simp [X.P.bad] at h
        · rename_i h4
          rw [if_neg h4] at h hu
          split
          · rename_i h5
            exfalso
            rw [if_pos h5] at h hu
            unfold X.P.hashL at h hu
            split at h
            · simp [X.P.bad] at h
            · rename_i h6
              rw [if_neg h6] at hu
              have hu' : 1 + (r.takeWhile X.P.isDig).length = r.length + 1 := hu
              have hne : (r.takeWhile X.P.isDig).length ≠ 0 := fun e => h6 (by simp [e])
              match hr : r, hl, hu', hne with
              | [], _, _, hne => simp at hne
              | x :: y, hl, hu', _ =>
                rw [List.length_cons, List.getElem?_cons_succ] at hl
                have hu2 : (List.takeWhile X.P.isDig (x :: y)).length = (x :: y).length := by
                  have h9 : 1 + (List.takeWhile X.P.isDig (x :: y)).length = (x :: y).length + 1 := hu'
                  omega
                have := tw_all (x :: y) hu2 42 (List.mem_of_getElem? hl)
                exact absurd this (by decide)
          · rename_i h5
            rw [if_neg h5] at h hu
            unfold X.P.signL at h hu ⊢
            split
            · rename_i g hg
              rw [hg] at hu
              have hm := List.mem_of_find?_eq_some hg
              have h7 := List.find?_some hg
              have h8 : Lib.hasPrefix (c :: r) g = true := h7
              have hp := List.isPrefixOf_iff_prefix.1 h8
              have hu' : g.length = r.length + 1 := hu
              have he : g = c :: r := hp.eq_of_length (by rw [hu', List.length_cons])
              have := signs_star g hm (by rw [hu', he]; simpa using hl)
              exact ⟨rfl, this⟩
            · rename_i hg; rw [hg] at h; simp [X.P.bad] at h
theorem lexN_star (s : ByteArray) (hs : s.data.toList[s.size - 1]? = some 42) : ∀ (m k : Nat) (last : Int) (acc : List X.P.Tk), k < s.size → s.size - k < m → (X.P.lexN s m k last acc).code = 0 →
    ∃ l t u, (X.P.lexN s m k last acc).toks = acc ++ (l ++ [t, u]) ∧ t.kind = 5 ∧ t.text = [42] ∧ u.kind = 0 ∧ ∀ x ∈ l, x.kind ≠ 0
  | 0, _, _, _, _, h, _ => absurd h (Nat.not_lt_zero _)
  | m + 1, k, last, acc, hk, hm, hc => by
    have hb := X.P.blEnd_bd s k (by omega)
    have hlen : s.data.toList.length = s.size := by simp
    have hp : X.P.blEnd s k < s.size := by
      rcases Nat.lt_or_ge (X.P.blEnd s k) s.size with g | g
      · exact g
      · exfalso
        have he : ((s.data.toList.drop k).takeWhile X.P.isBl).length = (s.data.toList.drop k).length := by
          have h1 : X.P.blEnd s k = k + ((s.data.toList.drop k).takeWhile X.P.isBl).length := rfl
          have h2 := X.P.tw_len (p := X.P.isBl) (s.data.toList.drop k)
          rw [List.length_drop, hlen] at h2 ⊢
          omega
        have hm42 : (42 : UInt8) ∈ s.data.toList.drop k := by
          refine List.mem_of_getElem? (i := s.size - 1 - k) ?_
          rw [List.getElem?_drop, show k + (s.size - 1 - k) = s.size - 1 by omega]
          exact hs
        exact absurd (tw_all _ he 42 hm42) (by decide)
    rw [X.P.lexN_succ] at hc ⊢
    by_cases he : (X.P.fdAt s (X.P.blEnd s k)).err ≠ 0
    · rw [if_pos he] at hc
      exact absurd hc he
    · rw [if_neg he] at hc ⊢
      have he0 : (X.P.fdAt s (X.P.blEnd s k)).err = 0 := by omega
      obtain ⟨u1, u2, u3, _⟩ := fd_all s _ hp he0
      have hz : (X.P.fdAt s (X.P.blEnd s k)).kind ≠ 0 := by omega
      rw [if_neg hz] at hc ⊢
      by_cases hlt : X.P.blEnd s k + (X.P.fdAt s (X.P.blEnd s k)).used < s.size
      · obtain ⟨l, t, u, e1, e2, e3, e4, e5⟩ := lexN_star s hs m _ _ _ hlt (by omega) hc
        refine ⟨_ :: l, t, u, by rw [e1, List.append_assoc]; rfl, e2, e3, e4, fun x hx => ?_⟩
        rcases List.mem_cons.1 hx with rfl | hx
        · exact hz
        · exact e5 x hx
      · have heq : X.P.blEnd s k + (X.P.fdAt s (X.P.blEnd s k)).used = s.size := by omega
        obtain ⟨l, t, e1, e2, _, _, _, e6⟩ := lexN_ok s m _ _ _ (Nat.le_of_eq heq) (by omega) hc
        have hl0 : l = [] := List.eq_nil_of_length_eq_zero (by omega)
        subst hl0
        obtain ⟨c, r, hcr, hrl⟩ := X.P.drop_cons hp
        have hfd : X.P.fdAt s (X.P.blEnd s k) = X.P.tokL (c :: r) := by unfold X.P.fdAt; rw [hcr]
        have hst := tok_star c r (by rw [← hfd]; exact he0) (by rw [← hfd]; omega) (by
          have h1 : (s.data.toList.drop (X.P.blEnd s k))[r.length]? = some 42 := by
            rw [List.getElem?_drop, show X.P.blEnd s k + r.length = s.size - 1 by omega]
            exact hs
          rw [hcr] at h1
          exact h1)
        refine ⟨[], _, t, by rw [e1, List.append_assoc]; rfl, ?_, ?_, e2, by simp⟩
        · show (X.P.fdAt s (X.P.blEnd s k)).kind = 5
          rw [hfd]; exact hst.1
        · show (X.P.fdAt s (X.P.blEnd s k)).text = [42]
          rw [hfd]; exact hst.2
/-- No text that ends with a star is an expression. -/
theorem star_bad {s : ByteArray} {v : List UInt8} (h : s.data.toList = v ++ [42]) : (redD s).c ≠ 0 := by
  have hlen : s.data.toList.length = s.size := by simp
  have hsz : s.size = v.length + 1 := by rw [← hlen, h]; simp
  unfold redD
  by_cases hc : (X.P.lexAll s).code ≠ 0
  · rw [if_pos hc]; exact hc
  · rw [if_neg hc]
    have hc0 : (X.P.lexAll s).code = 0 := by omega
    have hstar : s.data.toList[s.size - 1]? = some 42 := by rw [h, hsz]; simp
    have hex : ∃ l t u, (X.P.lexAll s).toks = l ++ [t, u] ∧ t.kind = 5 ∧ t.text = [42] ∧ u.kind = 0 ∧ ∀ x ∈ l, x.kind ≠ 0 := by
      unfold X.P.lexAll at hc0 ⊢
      by_cases hs : 65536 < s.size
      · rw [if_pos hs] at hc0; cases hc0
      · rw [if_neg hs] at hc0 ⊢
        exact lexN_star s hstar _ 0 (-1) [] (by omega) (by omega) hc0
    obtain ⟨l, t, u, e1, e2, e3, e4, e5⟩ := hex
    have ht : tksOf s = l.map tokOf ++ [tokOf t, tokOf u] := by unfold tksOf; rw [e1]; simp
    have := star_no (l := l.map tokOf) (t := tokOf t) (u := tokOf u) (by
      show isB ⟨t.kind, ⟨t.text.toArray⟩, t.n⟩ [⟨#[42]⟩] = true
      rw [e2, e3]
      exact (isB_iff _ _).2 ⟨.inr rfl, List.mem_singleton.2 rfl⟩) e4 (fun x hx => by
      obtain ⟨y, hy, rfl⟩ := List.mem_map.1 hx
      exact e5 y hy)
    rw [← ht] at this
    rcases this with g | g
    · rw [if_pos g]; exact g
    · by_cases g2 : (parD (tksOf s) 0).c ≠ 0
      · rw [if_pos g2]; exact g2
      · rw [if_neg g2]; exact g
end Go.Proofs.YtpcldpnaljheoaaGreatDoor
end
section
namespace Go.Proofs.YtpcldpnaljheoaaGreatDoor.X.P
open Go.RowKit

def bareT (t : Tk) : Tk := ⟨t.kind, t.text, t.n, false, 0, 0, 0⟩
theorem fd_kind (s : ByteArray) (k : Nat) (hk : (fdAt s k).kind ≠ 0) : k < s.size := by
  rcases Nat.lt_or_ge k s.size with h | h
  · exact h
  · rw [fd_end s k (by omega)] at hk; exact absurd rfl hk

def bareF (f : Fd) : Tk := ⟨f.kind, f.text, f.n, false, 0, 0, 0⟩
theorem bare_mk (s : ByteArray) (f : Fd) (k : Nat) (last : Int) : bareT (mkT s f k last) = bareF f := rfl
/-- The tokens of what is left, without their places. -/
def bl : Nat → List UInt8 → Nat → Res
  | 0, _, _ => ⟨0, 0, []⟩
  | m + 1, l, p =>
    if (tokL (l.dropWhile isBl)).err ≠ 0 then ⟨(tokL (l.dropWhile isBl)).err, p + (l.takeWhile isBl).length, []⟩
    else if (tokL (l.dropWhile isBl)).kind = 0 then ⟨0, 0, [bareF (tokL (l.dropWhile isBl))]⟩
    else
      let r := bl m ((l.dropWhile isBl).drop (tokL (l.dropWhile isBl)).used) (p + (l.takeWhile isBl).length + (tokL (l.dropWhile isBl)).used)
      if r.code ≠ 0 then ⟨r.code, r.pos, []⟩ else ⟨0, 0, bareF (tokL (l.dropWhile isBl)) :: r.toks⟩
theorem bl_err {m p : Nat} {l : List UInt8} (h : (tokL (l.dropWhile isBl)).err ≠ 0) : bl (m + 1) l p = ⟨(tokL (l.dropWhile isBl)).err, p + (l.takeWhile isBl).length, []⟩ := by rw [bl, if_pos h]
theorem bl_end {m p : Nat} {l : List UInt8} (h : (tokL (l.dropWhile isBl)).err = 0) (h0 : (tokL (l.dropWhile isBl)).kind = 0) : bl (m + 1) l p = ⟨0, 0, [bareF (tokL (l.dropWhile isBl))]⟩ := by rw [bl, if_neg (by omega), if_pos h0]
theorem bl_bad {m p : Nat} {l : List UInt8} (h : (tokL (l.dropWhile isBl)).err = 0) (h0 : (tokL (l.dropWhile isBl)).kind ≠ 0) (hr : (bl m ((l.dropWhile isBl).drop (tokL (l.dropWhile isBl)).used) (p + (l.takeWhile isBl).length + (tokL (l.dropWhile isBl)).used)).code ≠ 0) :
    bl (m + 1) l p = ⟨(bl m ((l.dropWhile isBl).drop (tokL (l.dropWhile isBl)).used) (p + (l.takeWhile isBl).length + (tokL (l.dropWhile isBl)).used)).code, (bl m ((l.dropWhile isBl).drop (tokL (l.dropWhile isBl)).used) (p + (l.takeWhile isBl).length + (tokL (l.dropWhile isBl)).used)).pos, []⟩ := by
  rw [bl, if_neg (by omega), if_neg h0]; simp only []; rw [if_pos hr]
theorem bl_tok {m p : Nat} {l : List UInt8} (h : (tokL (l.dropWhile isBl)).err = 0) (h0 : (tokL (l.dropWhile isBl)).kind ≠ 0) (hr : (bl m ((l.dropWhile isBl).drop (tokL (l.dropWhile isBl)).used) (p + (l.takeWhile isBl).length + (tokL (l.dropWhile isBl)).used)).code = 0) :
    bl (m + 1) l p = ⟨0, 0, bareF (tokL (l.dropWhile isBl)) :: (bl m ((l.dropWhile isBl).drop (tokL (l.dropWhile isBl)).used) (p + (l.takeWhile isBl).length + (tokL (l.dropWhile isBl)).used)).toks⟩ := by
  rw [bl, if_neg (by omega), if_neg h0]; simp only []; rw [if_neg (by omega)]
theorem dw_drop (p : UInt8 → Bool) : ∀ l : List UInt8, l.dropWhile p = l.drop (l.takeWhile p).length
  | [] => rfl
  | c :: r => by
    rw [List.dropWhile_cons, List.takeWhile_cons]
    split
    · rw [List.length_cons, List.drop_succ_cons, dw_drop p r]
    · rfl
theorem bl_pos0 (m : Nat) (l : List UInt8) (p : Nat) (h : (bl m l p).code = 0) : (bl m l p).pos = 0 := by
  cases m with
  | zero => rfl
  | succ m =>
    by_cases h1 : (tokL (l.dropWhile isBl)).err = 0
    · by_cases h0 : (tokL (l.dropWhile isBl)).kind = 0
      · rw [bl_end h1 h0]
      · by_cases hr : (bl m ((l.dropWhile isBl).drop (tokL (l.dropWhile isBl)).used) (p + (l.takeWhile isBl).length + (tokL (l.dropWhile isBl)).used)).code = 0
        · rw [bl_tok h1 h0 hr]
        · rw [bl_bad h1 h0 hr] at h; exact absurd h hr
    · rw [bl_err h1] at h; exact absurd h h1
theorem lexN_bl (s : ByteArray) : ∀ m k last acc, s.size - k < m → k ≤ s.size → (lexN s m k last acc).code = (bl m (s.data.toList.drop k) k).code ∧ (lexN s m k last acc).pos = (bl m (s.data.toList.drop k) k).pos ∧
    ((lexN s m k last acc).code = 0 → (lexN s m k last acc).toks.map bareT = acc.map bareT ++ (bl m (s.data.toList.drop k) k).toks) := by
  intro m
  induction m with
  | zero => intro k last acc h; omega
  | succ m ih =>
    intro k last acc hm hk
    have e : (s.data.toList.drop k).dropWhile isBl = s.data.toList.drop (blEnd s k) := by rw [dw_drop, List.drop_drop]; rfl
    have e2 : k + ((s.data.toList.drop k).takeWhile isBl).length = blEnd s k := rfl
    have hb2 := blEnd_bd s k hk
    by_cases h1 : (fdAt s (blEnd s k)).err = 0
    · by_cases h0 : (fdAt s (blEnd s k)).kind = 0
      · rw [lexN_succ, if_neg (by omega), if_pos h0, bl_end (by rw [e]; exact h1) (by rw [e]; exact h0)]
        refine ⟨rfl, rfl, fun _ => ?_⟩
        rw [List.map_append, e]; rfl
      · have hjs := fd_kind s (blEnd s k) h0
        have hu := fd_use s (blEnd s k) hjs h1
        obtain ⟨i1, i2, i3⟩ := ih (blEnd s k + (fdAt s (blEnd s k)).used) (lineOf s (blEnd s k + (fdAt s (blEnd s k)).used)) (acc ++ [mkT s (fdAt s (blEnd s k)) (blEnd s k) last]) (by omega) (by omega)
        have e3 : ((s.data.toList.drop k).dropWhile isBl).drop (tokL ((s.data.toList.drop k).dropWhile isBl)).used = s.data.toList.drop (blEnd s k + (fdAt s (blEnd s k)).used) := by rw [e, List.drop_drop]; rfl
        have e4 : k + ((s.data.toList.drop k).takeWhile isBl).length + (tokL ((s.data.toList.drop k).dropWhile isBl)).used = blEnd s k + (fdAt s (blEnd s k)).used := by rw [e]; rfl
        rw [lexN_succ, if_neg (by omega), if_neg h0]
        by_cases hr : (bl m (s.data.toList.drop (blEnd s k + (fdAt s (blEnd s k)).used)) (blEnd s k + (fdAt s (blEnd s k)).used)).code = 0
        · have hb := bl_tok (m := m) (p := k) (l := s.data.toList.drop k) (by rw [e]; exact h1) (by rw [e]; exact h0) (by rw [e3, e4]; exact hr)
          rw [e3, e4] at hb
          rw [hb]
          refine ⟨i1.trans hr, i2.trans (bl_pos0 _ _ _ hr), fun hc => ?_⟩
          rw [i3 hc, List.map_append, e]
          simp [bare_mk, fdAt]
        · have hb := bl_bad (m := m) (p := k) (l := s.data.toList.drop k) (by rw [e]; exact h1) (by rw [e]; exact h0) (by rw [e3, e4]; exact hr)
          rw [e3, e4] at hb
          rw [hb]
          exact ⟨i1, i2, fun hc => absurd (i1.symm.trans hc) hr⟩
    · rw [lexN_succ, if_pos h1, bl_err (by rw [e]; exact h1), e, e2]
      exact ⟨rfl, rfl, fun h => absurd h h1⟩
theorem lex_bl (s : ByteArray) (h : s.size ≤ 65536) : (lexAll s).code = (bl (s.size + 1) s.data.toList 0).code ∧ (lexAll s).pos = (bl (s.size + 1) s.data.toList 0).pos ∧
    ((lexAll s).code = 0 → (lexAll s).toks.map bareT = (bl (s.size + 1) s.data.toList 0).toks) := by
  have := lexN_bl s (s.size + 1) 0 (-1) [] (by omega) (Nat.zero_le _)
  unfold lexAll
  rw [if_neg (by omega)]
  simpa using this
/- More steps than bytes are enough. -/
theorem tok_len (l : List UInt8) (he : (tokL l).err = 0) (hk : (tokL l).kind ≠ 0) : 1 ≤ (tokL l).used ∧ (tokL l).used ≤ l.length := by
  cases l with
  | nil => exact absurd rfl hk
  | cons c r => have := tok_use c r he; simp; omega
theorem dw_len (p : UInt8 → Bool) (l : List UInt8) : (l.dropWhile p).length + (l.takeWhile p).length = l.length := by
  have := congrArg List.length (List.takeWhile_append_dropWhile (p := p) (l := l))
  rw [List.length_append] at this
  omega
theorem bl_fuel : ∀ (m n : Nat) (l : List UInt8) (p : Nat), l.length < m → l.length < n → bl m l p = bl n l p := by
  intro m
  induction m with
  | zero => intro n l p h; omega
  | succ m ih =>
    intro n l p hm hn
    obtain ⟨n, rfl⟩ : ∃ n', n = n' + 1 := ⟨n - 1, by omega⟩
    by_cases h1 : (tokL (l.dropWhile isBl)).err = 0
    · by_cases h0 : (tokL (l.dropWhile isBl)).kind = 0
      · rw [bl_end h1 h0, bl_end h1 h0]
      · have hu := tok_len _ h1 h0
        have hd := dw_len isBl l
        have e := ih n ((l.dropWhile isBl).drop (tokL (l.dropWhile isBl)).used) (p + (l.takeWhile isBl).length + (tokL (l.dropWhile isBl)).used) (by rw [List.length_drop]; omega) (by rw [List.length_drop]; omega)
        rw [bl, bl, e]
    · rw [bl_err h1, bl_err h1]
theorem bl_shift : ∀ (m : Nat) (l : List UInt8) (p : Nat), (bl m l p).code = (bl m l 0).code ∧ ((bl m l p).code ≠ 0 → (bl m l p).pos = p + (bl m l 0).pos) ∧ (bl m l p).toks = (bl m l 0).toks := by
  intro m
  induction m with
  | zero => intro l p; exact ⟨rfl, fun h => absurd rfl h, rfl⟩
  | succ m ih =>
    intro l p
    by_cases h1 : (tokL (l.dropWhile isBl)).err = 0
    · by_cases h0 : (tokL (l.dropWhile isBl)).kind = 0
      · rw [bl_end h1 h0, bl_end h1 h0]; exact ⟨rfl, fun h => absurd rfl h, rfl⟩
      · obtain ⟨a1, a2, a3⟩ := ih ((l.dropWhile isBl).drop (tokL (l.dropWhile isBl)).used) (p + (l.takeWhile isBl).length + (tokL (l.dropWhile isBl)).used)
        obtain ⟨b1, b2, b3⟩ := ih ((l.dropWhile isBl).drop (tokL (l.dropWhile isBl)).used) (0 + (l.takeWhile isBl).length + (tokL (l.dropWhile isBl)).used)
        by_cases hr : (bl m ((l.dropWhile isBl).drop (tokL (l.dropWhile isBl)).used) 0).code = 0
        · rw [bl_tok h1 h0 (a1.trans hr), bl_tok h1 h0 (b1.trans hr)]
          exact ⟨rfl, fun h => absurd rfl h, by simp only []; rw [a3, b3]⟩
        · rw [bl_bad h1 h0 (by rw [a1]; exact hr), bl_bad h1 h0 (by rw [b1]; exact hr)]
          refine ⟨by simp only []; rw [a1, b1], fun _ => ?_, rfl⟩
          simp only []
          rw [a2 (by rw [a1]; exact hr), b2 (by rw [b1]; exact hr)]
          omega
    · rw [bl_err h1, bl_err h1]
      exact ⟨rfl, fun _ => by simp only []; omega, rfl⟩

/- What a blank behind a token leaves. -/
theorem tw_app (p : UInt8 → Bool) (b : UInt8) (t : List UInt8) (hb : p b = false) : ∀ l : List UInt8, (l ++ b :: t).takeWhile p = l.takeWhile p
  | [] => by rw [List.nil_append, List.takeWhile_cons, hb]; rfl
  | c :: r => by
    rw [List.cons_append, List.takeWhile_cons, List.takeWhile_cons, tw_app p b t hb r]
theorem rd_app (X : List UInt8) : ∀ l sh acc u, (rd 0 l sh acc u).2.2 = 0 → rd 0 (l ++ X) sh acc u = rd 0 l sh acc u := by
  intro l
  induction l with
  | nil => intro sh acc u h; cases sh <;> simp [rd] at h
  | cons c r ih =>
    intro sh acc u h
    have hcl : clos 0 ((c :: r) ++ X) = clos 0 (c :: r) := by rw [List.cons_append, clos0, clos0]
    cases sh with
    | true =>
      rw [List.cons_append]
      simp only [rd] at h ⊢
      split at h
      · rename_i h1
        rw [if_pos h1, if_pos h1]
        split at h
        · simp at h
        · rename_i h2
          rw [if_neg h2, if_neg h2]
          exact ih _ _ _ h
      · simp at h
    | false =>
      rw [List.cons_append] at hcl ⊢
      simp only [rd] at h ⊢
      rw [hcl]
      split at h
      · rename_i h1; rw [if_pos h1, if_pos h1]
      · rename_i h1
        rw [if_neg h1, if_neg h1]
        split at h
        · rename_i h2; rw [if_pos h2, if_pos h2]; exact ih _ _ _ h
        · rename_i h2
          rw [if_neg h2, if_neg h2]
          split at h
          · simp at h
          · rename_i h3
            rw [if_neg h3, if_neg h3]
            split at h
            · simp at h
            · rename_i h4
              rw [if_neg h4, if_neg h4]
              exact ih _ _ _ h
theorem hp_app (b : UInt8) (t : List UInt8) : ∀ (g l : List UInt8), b ∉ g → Lib.hasPrefix (l ++ b :: t) g = Lib.hasPrefix l g := by
  intro g
  induction g with
  | nil => intro l _; rw [hp_nil, hp_nil]
  | cons x xs ih =>
    intro l hb
    cases l with
    | nil =>
      rw [List.nil_append, hp_cons]
      have : (x == b) = false := by
        have : x ≠ b := fun e => hb (by rw [e]; simp)
        simpa using this
      rw [this]; rfl
    | cons c r =>
      rw [List.cons_append, hp_cons, hp_cons, ih r (fun h => hb (by simp [h]))]
theorem signs_nob (b : UInt8) (h : isBl b = true) : ∀ g ∈ signs, b ∉ g := by
  have := all8 (q := fun b => !isBl b || (signs.all fun g => !g.contains b)) (by decide +kernel) b
  rw [h] at this
  simp at this
  intro g hg hb
  exact this g hg hb
theorem bl_not (b : UInt8) (h : isBl b = true) : isDig b = false ∧ isNam b = false ∧ isLet b = false ∧ (b == 39) = false ∧ (b == 123) = false ∧ (b == 35) = false := by
  have := all8 (q := fun b => !isBl b || (!isDig b && !isNam b && !isLet b && !(b == 39) && !(b == 123) && !(b == 35))) (by decide +kernel) b
  rw [h] at this
  simp at this
  simp [this]
theorem find_congr {f g : List UInt8 → Bool} : ∀ l : List (List UInt8), (∀ x ∈ l, f x = g x) → l.find? f = l.find? g
  | [], _ => rfl
  | x :: r, h => by
    rw [List.find?_cons, List.find?_cons, h x (by simp), find_congr r fun y hy => h y (by simp [hy])]
/-- A token with a blank behind it is the same token. -/
theorem tok_app (c : UInt8) (r : List UInt8) (b : UInt8) (t : List UInt8) (hb : isBl b = true) (he : (tokL (c :: r)).err = 0) : tokL ((c :: r) ++ b :: t) = tokL (c :: r) := by
  obtain ⟨nd, nn, nl, n39, _, _⟩ := bl_not b hb
  rw [List.cons_append, tokL_cons, tokL_cons]
  rw [tokL_cons] at he
  split
  · rename_i h1
    rw [if_pos h1] at he
    have hc : c = 123 := by simpa using h1
    subst hc
    unfold noteL at he ⊢
    rw [read_cons] at he ⊢
    rw [read_cons]
    split at he
    · rename_i h2
      rw [rd_app _ _ _ _ _ h2]
    · rename_i h2; exact absurd he h2
  · rename_i h1
    rw [if_neg h1] at he
    split
    · rename_i h2
      rw [← List.cons_append, tw_app isDig b t nd]
    · rename_i h2
      rw [if_neg h2] at he
      split
      · rename_i h3
        rw [← List.cons_append, tw_app isNam b t nn]
      · rename_i h3
        rw [if_neg h3] at he
        split
        · rename_i h4
          rw [if_pos h4] at he
          have hc : c = 39 := by simpa using h4
          subst hc
          unfold quoteL at he ⊢
          rw [← List.cons_append, hp_app b t _ _ (by intro h; simp at h; rw [h] at n39; cases n39)]
          split
          · rfl
          · rename_i h5
            rw [if_neg h5] at he
            split at he
            · rename_i h6
              have h6' := h6
              rw [Bool.and_eq_true] at h6'
              have hl := quote_hp h6'.2
              have e1 : ((39 :: r) ++ b :: t).getD 1 0 = (39 :: r).getD 1 0 := by
                match r, hl with
                | _ :: _ :: _, _ => rfl
              have e2 : ((39 :: r) ++ b :: t).getD 2 0 = (39 :: r).getD 2 0 := by
                match r, hl with
                | _ :: _ :: _, _ => rfl
              rw [e1, e2]
            · cases he
        · rename_i h4
          rw [if_neg h4] at he
          split
          · rw [tw_app isDig b t nd]
          · unfold signL
            rw [← List.cons_append]
            have : (signs.find? fun g => Lib.hasPrefix ((c :: r) ++ b :: t) g) = signs.find? fun g => Lib.hasPrefix (c :: r) g := by
              apply find_congr
              intro g hg
              rw [hp_app b t g _ (signs_nob b hb g hg)]
            rw [this]
theorem dw_app1 (p : UInt8 → Bool) (X : List UInt8) : ∀ l : List UInt8, l.dropWhile p = [] → (l ++ X).dropWhile p = X.dropWhile p ∧ (l ++ X).takeWhile p = l ++ X.takeWhile p
  | [], _ => ⟨rfl, rfl⟩
  | c :: r, h => by
    rw [List.dropWhile_cons] at h
    split at h
    · rename_i hc
      have := dw_app1 p X r h
      rw [List.cons_append, List.dropWhile_cons, List.takeWhile_cons, if_pos hc, if_pos hc, this.1, this.2]
      exact ⟨rfl, rfl⟩
    · cases h
theorem dw_app2 (p : UInt8 → Bool) (X : List UInt8) : ∀ l : List UInt8, l.dropWhile p ≠ [] → (l ++ X).dropWhile p = l.dropWhile p ++ X ∧ (l ++ X).takeWhile p = l.takeWhile p
  | [], h => absurd rfl h
  | c :: r, h => by
    rw [List.dropWhile_cons] at h
    rw [List.cons_append, List.dropWhile_cons, List.takeWhile_cons, List.dropWhile_cons, List.takeWhile_cons]
    split
    · rename_i hc
      rw [if_pos hc] at h
      have := dw_app2 p X r h
      rw [this.1, this.2]
      exact ⟨rfl, rfl⟩
    · exact ⟨rfl, rfl⟩
theorem bl_skip (M : Nat) (l t : List UInt8) (p q : Nat) (h1 : l.dropWhile isBl = t.dropWhile isBl) (h2 : p + (l.takeWhile isBl).length = q + (t.takeWhile isBl).length) : bl M l p = bl M t q := by
  cases M with
  | zero => rfl
  | succ M => rw [bl, bl, h1, h2]
theorem bl_step {M p n : Nat} {L D : List UInt8} {f : Fd} (h1 : tokL (L.dropWhile isBl) = f) (h2 : (L.takeWhile isBl).length = n) (h3 : (L.dropWhile isBl).drop f.used = D) (he : f.err = 0) (hk : f.kind ≠ 0) :
    bl (M + 1) L p = if (bl M D (p + n + f.used)).code ≠ 0 then ⟨(bl M D (p + n + f.used)).code, (bl M D (p + n + f.used)).pos, []⟩ else ⟨0, 0, bareF f :: (bl M D (p + n + f.used)).toks⟩ := by
  rw [bl, h1, if_neg (by omega), if_neg hk, h2, h3]
theorem bl_join (b : UInt8) (hb : isBl b = true) (t : List UInt8) : ∀ (m : Nat) (l : List UInt8) (p M : Nat), l.length < m → (l ++ b :: t).length < M → (bl m l p).code = 0 →
    (bl M (l ++ b :: t) p).code = (bl M t (p + l.length + 1)).code ∧ (bl M (l ++ b :: t) p).pos = (bl M t (p + l.length + 1)).pos ∧
    ((bl M t (p + l.length + 1)).code = 0 → (bl M (l ++ b :: t) p).toks = (bl m l p).toks.dropLast ++ (bl M t (p + l.length + 1)).toks) ∧ (bl m l p).toks ≠ [] := by
  intro m
  induction m with
  | zero => intro l p M h; omega
  | succ m ih =>
    intro l p M hm hM hc
    by_cases hl : l.dropWhile isBl = []
    · have ha := dw_app1 isBl (b :: t) l hl
      have e1 : (l ++ b :: t).dropWhile isBl = t.dropWhile isBl := by rw [ha.1, List.dropWhile_cons, if_pos hb]
      have e2 : ((l ++ b :: t).takeWhile isBl).length = l.length + 1 + (t.takeWhile isBl).length := by rw [ha.2, List.takeWhile_cons, if_pos hb, List.length_append, List.length_cons]; omega
      rw [bl_skip M _ t p (p + l.length + 1) e1 (by omega)]
      rw [bl_end (by rw [hl]; rfl) (by rw [hl]; rfl)]
      exact ⟨rfl, rfl, fun _ => rfl, by simp⟩
    · obtain ⟨c, r, hcr⟩ : ∃ c r, l.dropWhile isBl = c :: r := by
        cases h : l.dropWhile isBl with
        | nil => exact absurd h hl
        | cons c r => exact ⟨c, r, rfl⟩
      obtain ⟨a1, a2⟩ := dw_app2 isBl (b :: t) l hl
      have h1 : (tokL (l.dropWhile isBl)).err = 0 := by
        by_cases h : (tokL (l.dropWhile isBl)).err = 0
        · exact h
        · rw [bl_err h] at hc; exact hc
      have hu := tok_use c r (by rw [← hcr]; exact h1)
      rw [← hcr] at hu
      have h0 : (tokL (l.dropWhile isBl)).kind ≠ 0 := by omega
      have hd := dw_len isBl l
      have hlc : (l.dropWhile isBl).length = r.length + 1 := by rw [hcr]; rfl
      have et : tokL ((l ++ b :: t).dropWhile isBl) = tokL (l.dropWhile isBl) := by rw [a1, hcr]; exact tok_app c r b t hb (by rw [← hcr]; exact h1)
      have ed : ((l ++ b :: t).dropWhile isBl).drop (tokL (l.dropWhile isBl)).used = (l.dropWhile isBl).drop (tokL (l.dropWhile isBl)).used ++ b :: t := by
        rw [a1, List.drop_append_of_le_length (by omega)]
      have hr : (bl m ((l.dropWhile isBl).drop (tokL (l.dropWhile isBl)).used) (p + (l.takeWhile isBl).length + (tokL (l.dropWhile isBl)).used)).code = 0 := by
        by_cases h : (bl m ((l.dropWhile isBl).drop (tokL (l.dropWhile isBl)).used) (p + (l.takeWhile isBl).length + (tokL (l.dropWhile isBl)).used)).code = 0
        · exact h
        · rw [bl_bad h1 h0 h] at hc; exact hc
      obtain ⟨M, rfl⟩ : ∃ M', M = M' + 1 := ⟨M - 1, by omega⟩
      have hMl : l.length + 1 + t.length < M + 1 := by rw [List.length_append, List.length_cons] at hM; omega
      have hI := ih ((l.dropWhile isBl).drop (tokL (l.dropWhile isBl)).used) (p + (l.takeWhile isBl).length + (tokL (l.dropWhile isBl)).used) M (by rw [List.length_drop]; omega) (by rw [List.length_append, List.length_drop, List.length_cons]; omega) hr
      have hpos : p + (l.takeWhile isBl).length + (tokL (l.dropWhile isBl)).used + ((l.dropWhile isBl).drop (tokL (l.dropWhile isBl)).used).length + 1 = p + l.length + 1 := by rw [List.length_drop]; omega
      rw [hpos, bl_fuel M (M + 1) t (p + l.length + 1) (by omega) (by omega)] at hI
      obtain ⟨i1, i2, i3, i4⟩ := hI
      have hs1 := bl_step (M := m) (p := p) (L := l) rfl rfl rfl h1 h0
      have hs2 := bl_step (M := M) (p := p) (L := l ++ b :: t) et (by rw [a2]) ed h1 h0
      generalize tokL (l.dropWhile isBl) = f at *
      generalize (l.dropWhile isBl).drop f.used = D at *
      generalize p + (l.takeWhile isBl).length + f.used = q at *
      rw [if_neg (by omega)] at hs1
      rw [hs1, hs2]
      by_cases hT : (bl (M + 1) t (p + l.length + 1)).code = 0
      · rw [if_neg (by omega)]
        refine ⟨hT.symm, (bl_pos0 _ _ _ hT).symm, fun _ => ?_, by simp⟩
        simp only []
        rw [i3 hT]
        obtain ⟨x, y, hxy⟩ : ∃ x y, (bl m D q).toks = x :: y := by
          cases h : (bl m D q).toks with
          | nil => exact absurd h i4
          | cons x y => exact ⟨x, y, rfl⟩
        rw [hxy]
        rfl
      · rw [if_pos (by omega)]
        exact ⟨i1, i2, fun h => absurd h hT, by simp⟩
/-- Behind a text that has tokens, and a blank, another text. -/
theorem lex_join (s t u : ByteArray) (hu : u.data.toList = s.data.toList ++ 32 :: t.data.toList) (hz : u.size ≤ 65536) (hc : (lexAll s).code = 0) :
    (lexAll u).code = (lexAll t).code ∧ ((lexAll t).code ≠ 0 → (lexAll u).pos = s.size + 1 + (lexAll t).pos) ∧
    ((lexAll t).code = 0 → (lexAll u).toks.map bareT = ((lexAll s).toks.map bareT).dropLast ++ (lexAll t).toks.map bareT) ∧ (lexAll s).toks.map bareT ≠ [] := by
  have hul : u.size = s.size + 1 + t.size := by rw [← len_size u, hu, List.length_append, List.length_cons, len_size, len_size]; omega
  obtain ⟨s1, s2, s3⟩ := lex_bl s (by omega)
  obtain ⟨t1, t2, t3⟩ := lex_bl t (by omega)
  obtain ⟨u1, u2, u3⟩ := lex_bl u hz
  have hsl := len_size s
  have htl := len_size t
  have hJ := bl_join 32 (by decide) t.data.toList (s.size + 1) s.data.toList 0 (u.size + 1) (by omega) (by rw [← hu, len_size]; omega) (by rw [← s1]; exact hc)
  rw [← hu] at hJ
  obtain ⟨c1, c2, c3⟩ := bl_shift (u.size + 1) t.data.toList (0 + s.data.toList.length + 1)
  rw [bl_fuel (u.size + 1) (t.size + 1) t.data.toList 0 (by omega) (by omega), ← t1] at c1
  rw [bl_fuel (u.size + 1) (t.size + 1) t.data.toList 0 (by omega) (by omega), ← t2] at c2
  rw [bl_fuel (u.size + 1) (t.size + 1) t.data.toList 0 (by omega) (by omega)] at c3
  obtain ⟨j1, j2, j3, j4⟩ := hJ
  refine ⟨by rw [u1, j1, c1], fun h => ?_, fun h => ?_, by rw [s3 hc]; exact j4⟩
  · rw [u2, j2, c2 (by rw [c1]; exact h), hsl]; omega
  · rw [u3 (by rw [u1, j1, c1]; exact h), j3 (by rw [c1]; exact h), s3 hc, t3 h, c3]
end Go.Proofs.YtpcldpnaljheoaaGreatDoor.X.P
end
section
namespace Go.Proofs.YtpcldpnaljheoaaGreatDoor
open Go.RowKit

def bts (s : ByteArray) : List Bt := (tksOf s).map btk
def limOk (e : List D) : Prop := (limD e 0 0 0).c = 0
theorem limOk_iff (e : List D) (p l k : Nat) : (limD e p l k).c = 0 ↔ limOk e := by
  unfold limOk limD
  split
  · simp
  · split <;> simp
/-- What a text is, if it is read. -/
theorem red_fw {s : ByteArray} (h : (redD s).c = 0) : (X.P.lexAll s).code = 0 ∧ limOk (redX s) ∧ ∃ T u, bts s = T ++ [u] ∧ u.kind = 0 ∧ Der 1 T (redX s) := by
  unfold redD at h
  by_cases hc : (X.P.lexAll s).code ≠ 0
  · rw [if_pos hc] at h; exact absurd h hc
  · rw [if_neg hc] at h
    have hc0 : (X.P.lexAll s).code = 0 := by omega
    by_cases hp : (parD (tksOf s) 0).c ≠ 0
    · rw [if_pos hp] at h; exact absurd h hp
    · rw [if_neg hp] at h
      obtain ⟨l, t, e, ht, _, _, hl, _, _⟩ := lex_ok hc0
      have hts : tksOf s = l.map tokOf ++ [tokOf t] := by unfold tksOf; rw [e]; simp
      have hb : bts s = (l.map tokOf).map btk ++ [btk (tokOf t)] := by unfold bts; rw [hts]; simp
      have hlk : ∀ x ∈ l.map tokOf, x.kind ≠ 0 := fun x hx => by
        obtain ⟨y, hy, rfl⟩ := List.mem_map.1 hx
        have := (hl y hy).k1
        show y.kind ≠ 0
        omega
      have hf : (endS s).f = 0 := h
      unfold endS at hf
      unfold redX
      have G := parX_good (tksOf s) 0
      unfold parD at hp
      rw [hb]
      rw [hts] at G hp hf ⊢
      have htk : (tokOf t).kind = 0 := ht
      generalize l.map tokOf = L at *
      generalize tokOf t = u at *
      generalize parX (L ++ [u]) 0 = x at G hp hf ⊢
      have hxf : x.2.f = 0 := by
        by_cases hx : x.2.f = 0
        · exact hx
        · unfold ansD at hp
          rw [if_neg hx] at hp
          exact absurd hx hp
      obtain ⟨k1, k2, d⟩ := G rfl hxf
      have k1' : 0 < x.2.k := k1
      rw [List.length_append, show [u].length = 1 from rfl] at k2
      have hlim : limOk x.1 := by
        unfold ansD at hp
        rw [if_pos hxf] at hp
        exact (limOk_iff _ _ _ _).1 (Classical.not_not.1 hp)
      have hkL : x.2.k = L.length := by
        have h1 : ¬ x.2.k < L.length := fun g => by
          unfold needEndS at hf
          have hcur : (cur (L ++ [u]) ⟨x.2.k, 0, 0, 0, 0⟩).kind ≠ 0 := by
            unfold cur
            rw [if_pos rfl]
            dsimp only
            rw [List.getElem?_append_left g, List.getElem?_eq_getElem g]
            exact hlk _ (List.getElem_mem g)
          rw [if_neg hcur] at hf
          exact refuse_ne _ _ hf
        have h2 : x.2.k ≠ L.length + 1 := fun g => by
          obtain ⟨T', b, e, hb⟩ := der_last d
          have hseg : seg (L ++ [u]) 0 x.2.k = L.map btk ++ [btk u] := by
            unfold seg
            rw [List.drop_zero, List.take_of_length_le (by rw [List.length_append, g]; show L.length + 1 ≤ L.length + 1 - 0; omega)]
            simp
          have e' : L.map btk ++ [btk u] = T' ++ [b] := hseg.symm.trans e
          have := List.append_inj_right' e' rfl
          have hbu : btk u = b := by simpa using this
          rw [← hbu] at hb
          exact (lastB_no hb).1 htk
        omega
      have hseg : seg (L ++ [u]) (RS.mk 0 0 0 0 0).k x.2.k = L.map btk := by
        show seg (L ++ [u]) 0 x.2.k = _
        unfold seg
        rw [List.drop_zero, hkL, Nat.sub_zero, List.take_left' rfl]
      rw [hseg] at d
      exact ⟨hc0, hlim, _, _, rfl, htk, d⟩
theorem noHd_end {l : List ByteArray} {u : Bt} (h : u.kind = 0) : NoHd l [u] := NoHd.cons (isB_kind (by omega) (by omega) l) []
/-- And what is an expression of the grammar is read as it. -/
theorem red_bw {s : ByteArray} (hc : (X.P.lexAll s).code = 0) {T : List Bt} {u : Bt} {e : List D} (hb : bts s = T ++ [u]) (hu : u.kind = 0) (hd : Der 1 T e) (hl : limOk e) : (redD s).c = 0 ∧ redX s = e := by
  have hr : rst (tksOf s) 0 = T ++ [u] := hb
  have hx : parX (tksOf s) 0 = (e, adv ⟨0, 0, 0, 0, 0⟩ T.length) := (der_read hd).r1 rfl _ ⟨0, 0, 0, 0, 0⟩ [u] rfl hr (by unfold leftS; rw [if_pos rfl]; show (tksOf s).length - 0 < _; omega) (noHd_end hu) (noHd_end hu) (noHd_end hu) (noHd_end hu)
  have hpd : (parD (tksOf s) 0).c = 0 := by
    unfold parD
    rw [hx]
    unfold ansD
    rw [if_pos (show (e, adv (⟨0, 0, 0, 0, 0⟩ : RS) T.length).2.f = 0 from rfl)]
    exact (limOk_iff _ _ _ _).2 hl
  have he : endS s = ⟨T.length, 0, 0, 0, 0⟩ := by
    unfold endS needEndS
    rw [hx]
    have hk : (adv ⟨0, 0, 0, 0, 0⟩ T.length).k = T.length := Nat.zero_add _
    dsimp only
    rw [hk]
    have hr2 : rst (tksOf s) (RS.mk T.length 0 0 0 0).k = u :: [] := by
      have := rst_app hr
      rwa [Nat.zero_add] at this
    rw [if_pos ((kind_rst (s := ⟨T.length, 0, 0, 0, 0⟩) rfl hr2).trans hu)]
  refine ⟨?_, by unfold redX; rw [hx]⟩
  unfold redD
  rw [if_neg (by omega), if_neg (by omega), he]
  rfl
theorem bts_bare (s : ByteArray) : bts s = ((X.P.lexAll s).toks.map X.P.bareT).map fun t => ⟨t.kind, ⟨t.text.toArray⟩, t.n⟩ := by
  unfold bts tksOf
  rw [List.map_map, List.map_map]
  rfl
theorem bts_join {s t u : ByteArray} (hu : u.data.toList = s.data.toList ++ 32 :: t.data.toList) (hz : u.size ≤ 65536) (hs : (X.P.lexAll s).code = 0) (ht : (X.P.lexAll t).code = 0) : (X.P.lexAll u).code = 0 ∧ bts u = (bts s).dropLast ++ bts t := by
  obtain ⟨h1, _, h3, _⟩ := X.P.lex_join s t u hu hz hs
  refine ⟨h1.trans ht, ?_⟩
  rw [bts_bare, h3 ht, List.map_append, bts_bare s, bts_bare t, List.map_dropLast]
def wrapB (t : ByteArray) : ByteArray := ⟨#[40, 32]⟩ ++ t ++ ⟨#[32, 41]⟩
def opB : ByteArray := ⟨#[40]⟩
def cloB : ByteArray := ⟨#[41]⟩
theorem lexOp : (X.P.lexAll opB).code = 0 ∧ bts opB = [⟨5, opB, 0⟩, ⟨0, ⟨#[]⟩, 0⟩] := ⟨by kernel_rfl, by kernel_rfl⟩
theorem lexClo : (X.P.lexAll cloB).code = 0 ∧ bts cloB = [⟨5, cloB, 0⟩, ⟨0, ⟨#[]⟩, 0⟩] := ⟨by kernel_rfl, by kernel_rfl⟩
theorem wrap_size (t : ByteArray) : (wrapB t).size = t.size + 4 := by
  unfold wrapB
  simp [ByteArray.size_append]
  rw [show (ByteArray.mk #[40, 32]).size = 2 from rfl, show (ByteArray.mk #[32, 41]).size = 2 from rfl]
  omega
/-- Brackets around all of it change nothing. -/
theorem wrap_red {t : ByteArray} (h : (redD t).c = 0) (hz : t.size + 4 ≤ 65536) : (redD (wrapB t)).c = 0 ∧ redX (wrapB t) = redX t := by
  obtain ⟨hc, hl, T, u, hb, hu, hd⟩ := red_fw h
  have e1 : (opB ++ ⟨#[32]⟩ ++ t).data.toList = opB.data.toList ++ 32 :: t.data.toList := by simp
  have s1 : (opB ++ ⟨#[32]⟩ ++ t).size = t.size + 2 := by
    simp [ByteArray.size_append]
    rw [show opB.size = 1 from rfl, show (ByteArray.mk #[32]).size = 1 from rfl]
    omega
  obtain ⟨c1, b1⟩ := bts_join e1 (by omega) lexOp.1 hc
  have e2 : (wrapB t).data.toList = (opB ++ ⟨#[32]⟩ ++ t).data.toList ++ 32 :: cloB.data.toList := by
    unfold wrapB opB cloB
    simp
  obtain ⟨c2, b2⟩ := bts_join e2 (by rw [wrap_size]; exact hz) c1 lexClo.1
  rw [b1, lexOp.2, hb, lexClo.2] at b2
  have hd2 : Der 1 (⟨5, opB, 0⟩ :: (T ++ [⟨5, cloB, 0⟩])) (redX t) :=
    .up1 _ _ (.up2 _ _ (.up3 _ _ (.par ⟨5, opB, 0⟩ ⟨5, cloB, 0⟩ T _ ((isB_iff _ _).2 ⟨.inr rfl, List.mem_singleton.2 rfl⟩) hd ((isB_iff _ _).2 ⟨.inr rfl, List.mem_singleton.2 rfl⟩))))
  refine red_bw c2 (T := ⟨5, opB, 0⟩ :: (T ++ [⟨5, cloB, 0⟩])) (u := ⟨0, ⟨#[]⟩, 0⟩) ?_ rfl hd2 hl
  have hdl : ((⟨5, opB, 0⟩ : Bt) :: (T ++ [u])).dropLast = ⟨5, opB, 0⟩ :: T := by
    rw [show (⟨5, opB, 0⟩ : Bt) :: (T ++ [u]) = (⟨5, opB, 0⟩ :: T) ++ [u] from rfl, List.dropLast_concat]
  rw [b2]
  show ((⟨5, opB, 0⟩ : Bt) :: (T ++ [u])).dropLast ++ [⟨5, cloB, 0⟩, ⟨0, ⟨#[]⟩, 0⟩] = _
  rw [hdl]
  simp
end Go.Proofs.YtpcldpnaljheoaaGreatDoor
end
section
namespace Go.Proofs.YtpcldpnaljheoaaGreatDoor
open Go.RowKit Go.Deep Go.Sort
def RowsEq (w0 : World) (F : Nat) (l l' : List (List D)) : Prop := ∀ (a a' : Option Addr) (len len' cap cap' : Nat), At w0 (.slice a len cap) (.row l) → At w0 (.slice a' len' cap') (.row l') → ∀ W, Below w0.heap.size w0 W → Calls Tryz.prog F #[.slice a len cap, .slice a' len' cap'] W (EqPost l l' W)
end Go.Proofs.YtpcldpnaljheoaaGreatDoor
end
