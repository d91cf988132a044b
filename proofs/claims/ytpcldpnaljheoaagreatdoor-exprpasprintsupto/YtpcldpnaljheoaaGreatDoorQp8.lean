/-
  The document's printer of expressions, walked: truths, names, fields, one operand.
-/
import Derived.Test.YtpcldpnaljheoaaGreatDoorQs8
import Derived.Test.YtpcldpnaljheoaaGreatDoorQt8
import Derived.Test.YtpcldpnaljheoaaGreatDoorPy8
namespace Go.Proofs.YtpcldpnaljheoaaGreatDoor
open Go.RowKit Go.Deep Go.Sort

/-- What the document's Print leaves. -/
def RpPost (t : List UInt8) (w : World) (e : Ending) (w' : World) : Prop := e = .returned (.string ⟨t.toArray⟩) ∧ Below w.heap.size w w'
abbrev rpA (op n : Int) (nm fd : ByteArray) (a : Option Addr) (len c : Nat) : Array Value := #[.int .i64 0, .agg #[.int .i64 op, .int .i64 n, .string nm, .string fd, .slice a len c]]
theorem ba_bal (x : ByteArray) : (ByteArray.mk x.data.toList.toArray) = x := by apply ByteArray.ext; simp
set_option maxRecDepth 100000 in
set_option maxHeartbeats 1000000 in
theorem rp_bool {k : Nat} (hk : k < 2) {nm fd : ByteArray} {a : Option Addr} {len c : Nat} (w : World) : Calls Tryz.prog 15 (rpA 2 (k : Nat) nm fd a len c) w (RpPost (truP (k : Nat)).data.toList w) := by
  have R0 := Lib.hid ((Below.refl w.heap.size w).alloc (Nat.le_refl _) (.cells #[.int .i64 2, .int .i64 (k : Nat), .string nm, .string fd, .slice a len c] 25))
  unfold RpPost
  rw [ba_bal]
  rcases (by omega : k = 0 ∨ k = 1) with rfl | rfl
  all_goals
    go_enter Tryz.func15, Tryz.ntmps15
    go_wp2_with fail
    go_ret
    exact ⟨rfl, R0.out⟩
set_option maxRecDepth 100000 in
set_option maxHeartbeats 1000000 in
theorem rp_name {n : Int} {nm fd : ByteArray} {a : Option Addr} {len c : Nat} (w : World) : Calls Tryz.prog 15 (rpA 4 n nm fd a len c) w (RpPost nm.data.toList w) := by
  have R0 := Lib.hid ((Below.refl w.heap.size w).alloc (Nat.le_refl _) (.cells #[.int .i64 4, .int .i64 n, .string nm, .string fd, .slice a len c] 25))
  unfold RpPost
  rw [ba_bal]
  go_enter Tryz.func15, Tryz.ntmps15
  go_wp2_with fail
  go_ret
  exact ⟨rfl, R0.out⟩
set_option maxRecDepth 100000 in
set_option maxHeartbeats 1000000 in
theorem rp_field {n : Int} {nm fd : ByteArray} {a : Option Addr} {len c : Nat} (hl : (nm.data.toList ++ 46 :: fd.data.toList).length ≤ 100000000) (w : World) : Calls Tryz.prog 15 (rpA 6 n nm fd a len c) w (RpPost (nm.data.toList ++ 46 :: fd.data.toList) w) := by
  have R0 := Lib.hid ((Below.refl w.heap.size w).alloc (Nat.le_refl _) (.cells #[.int .i64 6, .int .i64 n, .string nm, .string fd, .slice a len c] 25))
  have hl2 : nm.data.toList.length + fd.data.toList.length ≤ 100000000 := by simp at hl ⊢; omega
  have a1 : ∀ w, (Op.stringOp .add nm ⟨#[46]⟩).run Tryz.prog w = .ok (.string ⟨(nm.data.toList ++ [46]).toArray⟩) w := fun w => by
    have := add_l nm.data.toList [46] (by simp at hl2 ⊢; omega) w
    rwa [ba_bal] at this
  have a2 : ∀ w, (Op.stringOp .add ⟨(nm.data.toList ++ [46]).toArray⟩ fd).run Tryz.prog w = .ok (.string ⟨(nm.data.toList ++ 46 :: fd.data.toList).toArray⟩) w := fun w => by
    have := add_l (nm.data.toList ++ [46]) fd.data.toList (by simp at hl2 ⊢; omega) w
    rw [ba_bal, List.append_assoc] at this
    exact this
  unfold RpPost
  generalize (ByteArray.mk (nm.data.toList ++ [46]).toArray) = X at a1 a2
  generalize (ByteArray.mk (nm.data.toList ++ 46 :: fd.data.toList).toArray) = Y at a2 ⊢
  clear hl hl2
  go_enter Tryz.func15, Tryz.ntmps15
  go_wp2_with fail
  go_ret
  exact ⟨rfl, R0.out⟩
set_option maxRecDepth 100000 in
set_option maxHeartbeats 2000000 in
theorem rp_pre {w0 : World} {t : List D → List UInt8} {y : List D} (hf : RfFn w0 t y) (hs : ShE y) (h1 : 1 ≤ opX y) (h24 : opX y ≤ 24) {op n : Int} (hop : op = 8 ∨ op = 9) {nm fd : ByteArray} {a : Option Addr} {len c : Nat} {l : List (List D)} (hA : At w0 (.slice a len c) (.row l)) (hy : l[0]? = some y) (w : World) (hW : Below w0.heap.size w0 w) (hl : (ahdP op t y).length ≤ 100000000) :
    Calls Tryz.prog 15 (rpA op n nm fd a len c) w (RpPost (ahdP op t y) w) := by
  have hln := hA.len_eq.1
  have h0l : 0 < l.length := (List.getElem?_eq_some_iff.1 hy).1
  obtain ⟨b, o, op1, n1, nm1, fd1, la1, ln1, lc1, rfl, hb, hv, c0, c1, c2, c3, c4⟩ := hA.elemE hy hs
  rw [show o + 0 * 5 = o by omega] at c0 c1 c2 c3 c4
  have R0 := Lib.hid ((Below.refl w.heap.size w).alloc (Nat.le_refl _) (.cells #[.int .i64 op, .int .i64 n, .string nm, .string fd, .slice (some ⟨b, o, none⟩) len c] 25))
  have hlen2 : 0 < len := by omega
  have hlen : (0 : Int) < (len : Int) := by omega
  have B0 := hW.trans (R0.out.mono hW.size)
  have e0 := (B0.cell (p := ⟨b, o, none⟩) hb).trans c0
  have e1 := (B0.cell (p := ⟨b, o + 1, none⟩) hb).trans c1
  have e2 := (B0.cell (p := ⟨b, o + 2, none⟩) hb).trans c2
  have e3 := (B0.cell (p := ⟨b, o + 3, none⟩) hb).trans c3
  have e4 := (B0.cell (p := ⟨b, o + 4, none⟩) hb).trans c4
  have hbw : b < (w.alloc (.cells #[.int .i64 op, .int .i64 n, .string nm, .string fd, .slice (some ⟨b, o, none⟩) len c] 25)).heap.size := Nat.lt_of_lt_of_le hb B0.size
  unfold RpPost
  rcases hop with rfl | rfl
  · have hh : ahdP 8 t y = 45 :: optP 3 t y := rfl
    rw [hh] at hl ⊢
    have hl2 : (optP 3 t y).length ≤ 99999999 := by simp at hl; omega
    have HA := Lib.hid (rat_any hf hs h1 h24 hv 3 _ B0 (by omega))
    generalize optP 3 t y = ty at HA hl2 ⊢
    have a1 : ∀ w, (Op.stringOp .add ⟨#[45]⟩ ⟨ty.toArray⟩).run Tryz.prog w = .ok (.string ⟨(45 :: ty).toArray⟩) w := fun w => add_l [45] ty (by simp; omega) w
    generalize (ByteArray.mk (45 :: ty).toArray) = Y at a1 ⊢
    generalize (ByteArray.mk ty.toArray) = X at HA a1
    clear hf hs hA hy hv h1 h24 B0 hh hl hl2 c0 c1 c2 c3 c4 hW hln h0l hb
    go_enter Tryz.func15, Tryz.ntmps15
    go_wp2_with fail
    refine HA.out.mono ?_
    rintro e w1 ⟨rfl, b1⟩
    have R1 := Lib.hid (R0.out.trans (b1.mono R0.out.size))
    clear b1
    go_wp2_with fail
    go_ret
    exact ⟨rfl, R1.out⟩
  · have hh : ahdP 9 t y = [110, 111, 116, 32] ++ optP 4 t y := rfl
    rw [hh] at hl ⊢
    have hl2 : (optP 4 t y).length ≤ 99999996 := by simp at hl; omega
    have HA := Lib.hid (rat_any hf hs h1 h24 hv 4 _ B0 (by omega))
    generalize optP 4 t y = ty at HA hl2 ⊢
    have a1 : ∀ w, (Op.stringOp .add ⟨#[110, 111, 116, 32]⟩ ⟨ty.toArray⟩).run Tryz.prog w = .ok (.string ⟨([110, 111, 116, 32] ++ ty).toArray⟩) w := fun w => add_l [110, 111, 116, 32] ty (by simp; omega) w
    generalize (ByteArray.mk ([110, 111, 116, 32] ++ ty).toArray) = Y at a1 ⊢
    generalize (ByteArray.mk ty.toArray) = X at HA a1
    clear hf hs hA hy hv h1 h24 B0 hh hl hl2 c0 c1 c2 c3 c4 hW hln h0l hb
    go_enter Tryz.func15, Tryz.ntmps15
    go_wp2_with fail
    refine HA.out.mono ?_
    rintro e w1 ⟨rfl, b1⟩
    have R1 := Lib.hid (R0.out.trans (b1.mono R0.out.size))
    clear b1
    go_wp2_with fail
    go_ret
    exact ⟨rfl, R1.out⟩
end Go.Proofs.YtpcldpnaljheoaaGreatDoor
