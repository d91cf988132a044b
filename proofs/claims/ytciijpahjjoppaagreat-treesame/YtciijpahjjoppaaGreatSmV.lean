/-
  Two structs compared field by field: walked.
-/
import Derived.Test.YtciijpahjjoppaaGreatSmM
import Derived.Test.YtciijpahjjoppaaGreatSnE
namespace Go.Proofs.YtciijpahjjoppaaGreat
open Go.RowKit Go.Deep
set_option maxRecDepth 100000 in
set_option maxHeartbeats 2000000 in
theorem sameVariable_step (w0 : World) (x y : List D) (hx : ShV x) (hy : ShV y) (vs ws : List Value) (hv : AllAt w0 vs x) (hw : AllAt w0 ws y)
    (W : World) (hW : Below w0.heap.size w0 W) : Calls Tryz.prog 39 #[.agg ⟨vs⟩, .agg ⟨ws⟩] W (EqPost x y W) := by
  obtain ⟨m0, m1, nm, kd, sz, tn, m0a, m0c, m1a, m1c, rfl, rfl, am0, am1, -, -, -, -, sm0, sm1⟩ := hv.openV hx
  obtain ⟨m0', m1', nm', kd', sz', tn', m0a', m0c', m1a', m1c', rfl, rfl, am0', am1', -, -, -, -, sm0', sm1'⟩ := hw.openV hy
  have Am0 := Lib.hid am0
  have Am1 := Lib.hid am1
  have Sm0 := Lib.hid sm0
  have Sm1 := Lib.hid sm1
  have Am0' := Lib.hid am0'
  have Am1' := Lib.hid am1'
  have Sm0' := Lib.hid sm0'
  have Sm1' := Lib.hid sm1'
  clear hx hy hv hw am0 am0' am1 am1' sm0 sm0' sm1 sm1'
  have HW := Lib.hid hW
  clear hW
  go_enter Tryz.func39, Tryz.ntmps39
  go_wp2_with fail
  have R0 := Lib.hid (((Below.refl W.heap.size W).alloc (Nat.le_refl _) (.cells #[.slice m0a m0.length m0c, .slice m1a m1.length m1c, .string nm, .int .i64 kd, .int .i64 sz, .string tn] 75)).alloc (by simp) (.cells #[.slice m0a' m0'.length m0c', .slice m1a' m1'.length m1c', .string nm', .int .i64 kd', .int .i64 sz', .string tn'] 75))
  have KA0 := Lib.hid (show ((W.alloc (.cells #[.slice m0a m0.length m0c, .slice m1a m1.length m1c, .string nm, .int .i64 kd, .int .i64 sz, .string tn] 75)).alloc (.cells #[.slice m0a' m0'.length m0c', .slice m1a' m1'.length m1c', .string nm', .int .i64 kd', .int .i64 sz', .string tn'] 75)).heap[W.heap.size]? = some (.cells #[.slice m0a m0.length m0c, .slice m1a m1.length m1c, .string nm, .int .i64 kd, .int .i64 sz, .string tn] 75) from box_first W (.cells #[.slice m0a m0.length m0c, .slice m1a m1.length m1c, .string nm, .int .i64 kd, .int .i64 sz, .string tn] 75) (.cells #[.slice m0a' m0'.length m0c', .slice m1a' m1'.length m1c', .string nm', .int .i64 kd', .int .i64 sz', .string tn'] 75))
  have KB0 := Lib.hid (show ((W.alloc (.cells #[.slice m0a m0.length m0c, .slice m1a m1.length m1c, .string nm, .int .i64 kd, .int .i64 sz, .string tn] 75)).alloc (.cells #[.slice m0a' m0'.length m0c', .slice m1a' m1'.length m1c', .string nm', .int .i64 kd', .int .i64 sz', .string tn'] 75)).heap[W.heap.size + 1]? = some (.cells #[.slice m0a' m0'.length m0c', .slice m1a' m1'.length m1c', .string nm', .int .i64 kd', .int .i64 sz', .string tn'] 75) from box_second W (.cells #[.slice m0a m0.length m0c, .slice m1a m1.length m1c, .string nm, .int .i64 kd, .int .i64 sz, .string tn] 75) (.cells #[.slice m0a' m0'.length m0c', .slice m1a' m1'.length m1c', .string nm', .int .i64 kd', .int .i64 sz', .string tn'] 75))
  have Z1 := HW.out.trans (R0.out.mono HW.out.size)
  refine (sameMarks_any w0 _ _ _ _ _ _ _ _ _ _ _ _ Am0.out Am1.out Am0'.out Am1'.out Sm0.out Sm1.out Sm0'.out Sm1'.out _ Z1).mono ?_
  rintro e w1 ⟨rfl, b1⟩
  have R1 := Lib.hid (R0.out.trans (b1.mono R0.out.size))
  have KA1 := Lib.hid ((b1.block _ (heap_lt KA0.out)).trans KA0.out)
  have KB1 := Lib.hid ((b1.block _ (heap_lt KB0.out)).trans KB0.out)
  have cA1 := box_cells KA1.out
  have cB1 := box_cells KB1.out
  clear b1 Z1
  cases hM : same (α := List D) [.row m0, .row m1] [.row m0', .row m1'] with
  | false =>
    have GH := Lib.hid (same_neq hM)
    clear hM
    go_wp2_with fail
    go_ret
    exact ⟨by rw [same_no (α := List D) (x := [.row m0, .row m1, .str nm, .int kd, .int sz, .str tn]) (y := [.row m0', .row m1', .str nm', .int kd', .int sz', .str tn']) (fun z => GH.out (congrArg (fun z : List D => (z.drop 0).take 2) z))]; rfl, R1.out⟩
  | true =>
    have QM := Lib.hid ((same_iff _ _).1 hM)
    clear hM
    cases hnm : nm.toList == nm'.toList with
    | false =>
      have G : nm ≠ nm' := (fun z => by subst z; simp at hnm)
      have GH := Lib.hid G
      clear G
      go_wp2_with fail
      go_ret
      exact ⟨by rw [same_no (α := List D) (x := [.row m0, .row m1, .str nm, .int kd, .int sz, .str tn]) (y := [.row m0', .row m1', .str nm', .int kd', .int sz', .str tn']) (fun z => GH.out (D.str.inj (congrArg (fun z : List D => nth z 2) z)))]; rfl, R1.out⟩
    | true =>
      have Qnm := Lib.hid (show nm = nm' from ((ba_eq_iff _ _).1 hnm))
      cases hTY : tySame kd kd' sz sz' tn tn' with
      | false =>
        have TYF := fun w => (ty_eql kd kd' sz sz' tn tn' w).trans (by rw [hTY])
        have hgd : Tryz.prog.eqGuardType Tryz.prog.depth 73 = false := by kernel_rfl
        have GH := Lib.hid (tyList_no hTY)
        clear hTY
        go_wp2_with fail
        go_ret
        exact ⟨by rw [same_no (α := List D) (x := [.row m0, .row m1, .str nm, .int kd, .int sz, .str tn]) (y := [.row m0', .row m1', .str nm', .int kd', .int sz', .str tn']) (fun z => GH.out (congrArg (fun z : List D => (z.drop 3).take 3) z))]; rfl, R1.out⟩
      | true =>
        have TYF := fun w => (ty_eql kd kd' sz sz' tn tn' w).trans (by rw [hTY])
        have hgd : Tryz.prog.eqGuardType Tryz.prog.depth 73 = false := by kernel_rfl
        have QTY := Lib.hid (tySame_iff.1 hTY)
        clear hTY
        have E := Lib.hid (show same (α := List D) [.row m0, .row m1, .str nm, .int kd, .int sz, .str tn] [.row m0', .row m1', .str nm', .int kd', .int sz', .str tn'] = true by
          obtain ⟨rfl, rfl⟩ : m0 = m0' ∧ m1 = m1' := by simpa using QM.out
          obtain rfl := Qnm.out
          obtain ⟨rfl, rfl, rfl⟩ : kd = kd' ∧ sz = sz' ∧ tn = tn' := QTY.out
          exact same_refl _)
        go_wp2_with fail
        go_ret
        exact ⟨by rw [E.out]; rfl, R1.out⟩
theorem efn_V (w0 : World) (l l' : List (List D)) (hs : ∀ z ∈ l, ShV z) (hs' : ∀ z ∈ l', ShV z) : EqFn w0 39 l l' := fun x hx y hy vs ws hv hw W hW => sameVariable_step w0 x y (hs x hx) (hs' y hy) vs ws hv hw W hW
end Go.Proofs.YtciijpahjjoppaaGreat
