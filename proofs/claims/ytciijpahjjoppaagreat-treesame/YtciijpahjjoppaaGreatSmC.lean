/-
  Two structs compared field by field: walked.
-/
import Derived.Test.YtciijpahjjoppaaGreatSmM
import Derived.Test.YtciijpahjjoppaaGreatSmF
import Derived.Test.YtciijpahjjoppaaGreatEqF
namespace Go.Proofs.YtciijpahjjoppaaGreat
open Go.RowKit Go.Deep
set_option maxRecDepth 100000 in
set_option maxHeartbeats 2000000 in
theorem sameRecord_step (w0 : World) (x y : List D) (hx : ShC x) (hy : ShC y) (vs ws : List Value) (hv : AllAt w0 vs x) (hw : AllAt w0 ws y)
    (W : World) (hW : Below w0.heap.size w0 W) : Calls Tryz.prog 37 #[.agg ⟨vs⟩, .agg ⟨ws⟩] W (EqPost x y W) := by
  obtain ⟨m0, m1, nm, fs, en, m0a, m0c, m1a, m1c, fsa, fsc, ena, enc, rfl, rfl, am0, am1, -, afs, aen, sm0, sm1, sfs, sen⟩ := hv.openC hx
  obtain ⟨m0', m1', nm', fs', en', m0a', m0c', m1a', m1c', fsa', fsc', ena', enc', rfl, rfl, am0', am1', -, afs', aen', sm0', sm1', sfs', sen'⟩ := hw.openC hy
  have Pfs := Lib.hid (efn_F w0 fs fs' sfs sfs')
  have Am0 := Lib.hid am0
  have Am1 := Lib.hid am1
  have Afs := Lib.hid afs
  have Aen := Lib.hid aen
  have Sm0 := Lib.hid sm0
  have Sm1 := Lib.hid sm1
  have Sfs := Lib.hid sfs
  have Sen := Lib.hid sen
  have Am0' := Lib.hid am0'
  have Am1' := Lib.hid am1'
  have Afs' := Lib.hid afs'
  have Aen' := Lib.hid aen'
  have Sm0' := Lib.hid sm0'
  have Sm1' := Lib.hid sm1'
  have Sfs' := Lib.hid sfs'
  have Sen' := Lib.hid sen'
  clear hx hy hv hw am0 am0' am1 am1' afs afs' aen aen' sm0 sm0' sm1 sm1' sfs sfs' sen sen'
  have HW := Lib.hid hW
  clear hW
  go_enter Tryz.func37, Tryz.ntmps37
  go_wp2_with fail
  have R0 := Lib.hid (((Below.refl W.heap.size W).alloc (Nat.le_refl _) (.cells #[.slice m0a m0.length m0c, .slice m1a m1.length m1c, .string nm, .slice fsa fs.length fsc, .slice ena en.length enc] 62)).alloc (by simp) (.cells #[.slice m0a' m0'.length m0c', .slice m1a' m1'.length m1c', .string nm', .slice fsa' fs'.length fsc', .slice ena' en'.length enc'] 62))
  have KA0 := Lib.hid (show ((W.alloc (.cells #[.slice m0a m0.length m0c, .slice m1a m1.length m1c, .string nm, .slice fsa fs.length fsc, .slice ena en.length enc] 62)).alloc (.cells #[.slice m0a' m0'.length m0c', .slice m1a' m1'.length m1c', .string nm', .slice fsa' fs'.length fsc', .slice ena' en'.length enc'] 62)).heap[W.heap.size]? = some (.cells #[.slice m0a m0.length m0c, .slice m1a m1.length m1c, .string nm, .slice fsa fs.length fsc, .slice ena en.length enc] 62) from box_first W (.cells #[.slice m0a m0.length m0c, .slice m1a m1.length m1c, .string nm, .slice fsa fs.length fsc, .slice ena en.length enc] 62) (.cells #[.slice m0a' m0'.length m0c', .slice m1a' m1'.length m1c', .string nm', .slice fsa' fs'.length fsc', .slice ena' en'.length enc'] 62))
  have KB0 := Lib.hid (show ((W.alloc (.cells #[.slice m0a m0.length m0c, .slice m1a m1.length m1c, .string nm, .slice fsa fs.length fsc, .slice ena en.length enc] 62)).alloc (.cells #[.slice m0a' m0'.length m0c', .slice m1a' m1'.length m1c', .string nm', .slice fsa' fs'.length fsc', .slice ena' en'.length enc'] 62)).heap[W.heap.size + 1]? = some (.cells #[.slice m0a' m0'.length m0c', .slice m1a' m1'.length m1c', .string nm', .slice fsa' fs'.length fsc', .slice ena' en'.length enc'] 62) from box_second W (.cells #[.slice m0a m0.length m0c, .slice m1a m1.length m1c, .string nm, .slice fsa fs.length fsc, .slice ena en.length enc] 62) (.cells #[.slice m0a' m0'.length m0c', .slice m1a' m1'.length m1c', .string nm', .slice fsa' fs'.length fsc', .slice ena' en'.length enc'] 62))
  have Z1 := HW.out.trans (R0.out.mono HW.out.size)
  refine (sameMarks_any w0 _ _ _ _ _ _ _ _ _ _ _ _ Am0.out Am1.out Am0'.out Am1'.out Sm0.out Sm1.out Sm0'.out Sm1'.out _ Z1).mono ?_
  rintro e w1 ⟨rfl, b1⟩
  have R1 := Lib.hid (R0.out.trans (b1.mono R0.out.size))
  have KA1 := Lib.hid ((b1.block _ (heap_lt KA0.out)).trans KA0.out)
  have KB1 := Lib.hid ((b1.block _ (heap_lt KB0.out)).trans KB0.out)
  have cA1 := box_cells KA1.out
  have cB1 := box_cells KB1.out
  clear b1 Z1
  cases hM : same (α := List D) [.row m0, .row m1] [.row m0', .row m1'] with
  | false =>
    have GH := Lib.hid (same_neq hM)
    clear hM
    go_wp2_with fail
    go_ret
    exact ⟨by rw [same_no (α := List D) (x := [.row m0, .row m1, .str nm, .row fs, .row en]) (y := [.row m0', .row m1', .str nm', .row fs', .row en']) (fun z => GH.out (congrArg (fun z : List D => (z.drop 0).take 2) z))]; rfl, R1.out⟩
  | true =>
    have QM := Lib.hid ((same_iff _ _).1 hM)
    clear hM
    cases hnm : nm.toList == nm'.toList with
    | false =>
      have G : nm ≠ nm' := (fun z => by subst z; simp at hnm)
      have GH := Lib.hid G
      clear G
      go_wp2_with fail
      go_ret
      exact ⟨by rw [same_no (α := List D) (x := [.row m0, .row m1, .str nm, .row fs, .row en]) (y := [.row m0', .row m1', .str nm', .row fs', .row en']) (fun z => GH.out (D.str.inj (congrArg (fun z : List D => nth z 2) z)))]; rfl, R1.out⟩
    | true =>
      have Qnm := Lib.hid (show nm = nm' from ((ba_eq_iff _ _).1 hnm))
      go_wp2_with fail
      clear cA1 cB1
      have Z2 := HW.out.trans (R1.out.mono HW.out.size)
      refine (equalF_any w0 _ _ _ _ _ _ _ _ Afs.out Afs'.out Sfs.out Sfs'.out Pfs.out _ Z2).mono ?_
      rintro e w2 ⟨rfl, b2⟩
      have R2 := Lib.hid (R1.out.trans (b2.mono R1.out.size))
      have KA2 := Lib.hid ((b2.block _ (heap_lt KA1.out)).trans KA1.out)
      have KB2 := Lib.hid ((b2.block _ (heap_lt KB1.out)).trans KB1.out)
      have cA2 := box_cells KA2.out
      have cB2 := box_cells KB2.out
      clear b2 Z2
      cases hfs : same fs fs' with
      | false =>
        have GH := Lib.hid (same_neq hfs)
        clear hfs
        go_wp2_with fail
        go_ret
        exact ⟨by rw [same_no (α := List D) (x := [.row m0, .row m1, .str nm, .row fs, .row en]) (y := [.row m0', .row m1', .str nm', .row fs', .row en']) (fun z => GH.out (D.row.inj (congrArg (fun z : List D => nth z 3) z)))]; rfl, R2.out⟩
      | true =>
        have Qfs := Lib.hid ((same_iff _ _).1 hfs)
        clear hfs
        go_wp2_with fail
        clear cA2 cB2
        have Z3 := HW.out.trans (R2.out.mono HW.out.size)
        refine (equalT_any w0 _ _ _ _ _ _ _ _ Aen.out Aen'.out Sen.out Sen'.out _ Z3).mono ?_
        rintro e w3 ⟨rfl, b3⟩
        have R3 := Lib.hid (R2.out.trans (b3.mono R2.out.size))
        have KA3 := Lib.hid ((b3.block _ (heap_lt KA2.out)).trans KA2.out)
        have KB3 := Lib.hid ((b3.block _ (heap_lt KB2.out)).trans KB2.out)
        have cA3 := box_cells KA3.out
        have cB3 := box_cells KB3.out
        clear b3 Z3
        cases hen : same en en' with
        | false =>
          have GH := Lib.hid (same_neq hen)
          clear hen
          go_wp2_with fail
          go_ret
          exact ⟨by rw [same_no (α := List D) (x := [.row m0, .row m1, .str nm, .row fs, .row en]) (y := [.row m0', .row m1', .str nm', .row fs', .row en']) (fun z => GH.out (D.row.inj (congrArg (fun z : List D => nth z 4) z)))]; rfl, R3.out⟩
        | true =>
          have Qen := Lib.hid ((same_iff _ _).1 hen)
          clear hen
          have E := Lib.hid (show same (α := List D) [.row m0, .row m1, .str nm, .row fs, .row en] [.row m0', .row m1', .str nm', .row fs', .row en'] = true by
            obtain ⟨rfl, rfl⟩ : m0 = m0' ∧ m1 = m1' := by simpa using QM.out
            obtain rfl := Qnm.out
            obtain rfl := Qfs.out
            obtain rfl := Qen.out
            exact same_refl _)
          go_wp2_with fail
          go_ret
          exact ⟨by rw [E.out]; rfl, R3.out⟩
theorem efn_C (w0 : World) (l l' : List (List D)) (hs : ∀ z ∈ l, ShC z) (hs' : ∀ z ∈ l', ShC z) : EqFn w0 37 l l' := fun x hx y hy vs ws hv hw W hW => sameRecord_step w0 x y (hs x hx) (hs' y hy) vs ws hv hw W hW
end Go.Proofs.YtciijpahjjoppaaGreat
