/-
  The document's printer of expressions, walked: an element; two operands.
-/
import Derived.Test.YtpcldpnaljheoaaGreatDoorQp8
import Derived.Test.YtpcldpnaljheoaaGreatDoorZz6
import Derived.Deep.RegionHeld3
namespace Go.Proofs.YtpcldpnaljheoaaGreatDoor
open Go.RowKit Go.Deep Go.Sort

set_option maxRecDepth 100000 in
set_option maxHeartbeats 4000000 in
theorem rp_index {w0 : World} {t : List D → List UInt8} {y : List D} (hf : RfFn w0 t y) (hs : ShE y) {n : Int} {nm fd : ByteArray} {a : Option Addr} {len c : Nat} {l : List (List D)} (hA : At w0 (.slice a len c) (.row l)) (hy : l[0]? = some y) (w : World) (hW : Below w0.heap.size w0 w) (hl : (idxP nm (t y)).length ≤ 100000000) :
    Calls Tryz.prog 15 (rpA 5 n nm fd a len c) w (RpPost (idxP nm (t y)) w) := by
  have hln := hA.len_eq.1
  have h0l : 0 < l.length := (List.getElem?_eq_some_iff.1 hy).1
  obtain ⟨b, o, op1, n1, nm1, fd1, la1, ln1, lc1, rfl, hb, hv, c0, c1, c2, c3, c4⟩ := hA.elemE hy hs
  rw [show o + 0 * 5 = o by omega] at c0 c1 c2 c3 c4
  have R0 := Lib.hid ((Below.refl w.heap.size w).alloc (Nat.le_refl _) (.cells #[.int .i64 5, .int .i64 n, .string nm, .string fd, .slice (some ⟨b, o, none⟩) len c] 25))
  have K0 := Lib.hid (heap_new w (.cells #[.int .i64 5, .int .i64 n, .string nm, .string fd, .slice (some ⟨b, o, none⟩) len c] 25))
  have hlen2 : 0 < len := by omega
  have hlen : (0 : Int) < (len : Int) := by omega
  have HB0 := Lib.hid hW
  have hl2 : nm.data.toList.length + (t y).length ≤ 99999998 := by unfold idxP at hl; simp at hl ⊢; omega
  have HC := Lib.hid (fun (U : World) (b : Below w0.heap.size w0 U) => hf _ hv U b (by omega))
  have a1 : ∀ w, (Op.stringOp .add nm ⟨#[91]⟩).run Tryz.prog w = .ok (.string ⟨(nm.data.toList ++ [91]).toArray⟩) w := fun w => by
    have := add_l nm.data.toList [91] (by simp at hl2 ⊢; omega) w
    rwa [ba_bal] at this
  have a2 : ∀ w, (Op.stringOp .add ⟨(nm.data.toList ++ [91]).toArray⟩ ⟨(t y).toArray⟩).run Tryz.prog w = .ok (.string ⟨(nm.data.toList ++ [91] ++ t y).toArray⟩) w := fun w => add_l _ _ (by simp at hl2 ⊢; omega) w
  have a3 : ∀ w, (Op.stringOp .add ⟨(nm.data.toList ++ [91] ++ t y).toArray⟩ ⟨#[93]⟩).run Tryz.prog w = .ok (.string ⟨(idxP nm (t y)).toArray⟩) w := fun w => by
    have h : idxP nm (t y) = nm.data.toList ++ [91] ++ t y ++ [93] := by unfold idxP; simp
    rw [h]
    exact add_l _ [93] (by simp at hl2 ⊢; omega) w
  unfold RpPost
  generalize (ByteArray.mk (idxP nm (t y)).toArray) = X3 at a3 ⊢
  generalize (ByteArray.mk (nm.data.toList ++ [91] ++ t y).toArray) = X2 at a2 a3
  generalize (ByteArray.mk (nm.data.toList ++ [91]).toArray) = X1 at a1 a2
  generalize (ByteArray.mk (t y).toArray) = ty at HC a2
  have KB : ∀ W' : World, Below w.heap.size w W' → W'.heap[w.heap.size]? = some (.cells #[.int .i64 5, .int .i64 n, .string nm, .string fd, .slice (some ⟨b, o, none⟩) len c] 25) →
      W'.cell? ⟨w.heap.size, 2, none⟩ = some (.string nm) ∧ W'.cell? ⟨w.heap.size, 4, none⟩ = some (.slice (some ⟨b, o, none⟩) len c) ∧ W'.cell? ⟨b, o, none⟩ = some (.int .i64 op1) ∧ W'.cell? ⟨b, o + 1, none⟩ = some (.int .i64 n1) ∧ W'.cell? ⟨b, o + 2, none⟩ = some (.string nm1) ∧ W'.cell? ⟨b, o + 3, none⟩ = some (.string fd1) ∧ W'.cell? ⟨b, o + 4, none⟩ = some (.slice la1 ln1 lc1) := fun W' bb e =>
    have B0 := hW.trans (bb.mono hW.size)
    ⟨box_cells e 2, box_cells e 4, (B0.cell (p := ⟨b, o, none⟩) hb).trans c0, (B0.cell (p := ⟨b, o + 1, none⟩) hb).trans c1, (B0.cell (p := ⟨b, o + 2, none⟩) hb).trans c2, (B0.cell (p := ⟨b, o + 3, none⟩) hb).trans c3, (B0.cell (p := ⟨b, o + 4, none⟩) hb).trans c4⟩
  have HKB := Lib.hid KB
  have HBW := Lib.hid (fun (W' : World) (bb : Below w.heap.size w W') => HB0.out.trans (bb.mono HB0.out.size))
  clear hf hs hA hy hv hl hl2 c0 c1 c2 c3 c4 hW hln h0l KB
  go_enter Tryz.func15, Tryz.ntmps15
  go_wp2_with fail
  generalize w.alloc _ = W0 at R0 K0 ⊢
  have RD := Lib.hid (below_drew0 R0.out)
  have HK0 := Lib.hid (HKB.out W0.drew RD.out K0.out)
  go_region_held3 (fun W' => W'.cell? ⟨w.heap.size, 2, none⟩ = some (.string nm) ∧ W'.cell? ⟨w.heap.size, 4, none⟩ = some (.slice (some ⟨b, o, none⟩) len c) ∧ W'.cell? ⟨b, o, none⟩ = some (.int .i64 op1) ∧ W'.cell? ⟨b, o + 1, none⟩ = some (.int .i64 n1) ∧ W'.cell? ⟨b, o + 2, none⟩ = some (.string nm1) ∧ W'.cell? ⟨b, o + 3, none⟩ = some (.string fd1) ∧ W'.cell? ⟨b, o + 4, none⟩ = some (.slice la1 ln1 lc1))
    (first | with_reducible exact HK0.out | with_reducible exact HK2.out | with_reducible assumption)
    (first | (go_at_call 15; refine (HC.out _ (HBW.out _ RD.out)).mono ?_; rintro e1 w1 ⟨rfl, b1⟩; have R2' := Lib.hid (RD.out.trans (b1.mono RD.out.size)); have HK2 := Lib.hid (HKB.out _ R2'.out ((b1.block _ (heap_lt K0.out)).trans K0.out)); clear b1))
  all_goals
    go_wp2_with fail
    go_ret
    exact ⟨rfl, R2'.out⟩
end Go.Proofs.YtpcldpnaljheoaaGreatDoor
