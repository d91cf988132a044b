/-
  Two structs compared field by field: walked.
-/
import Derived.Test.YtciijpahjjoppaaGreatEqP
import Derived.Test.YtciijpahjjoppaaGreatSmV
import Derived.Test.YtciijpahjjoppaaGreatEqV
import Derived.Test.YtciijpahjjoppaaGreatSmS
import Derived.Test.YtciijpahjjoppaaGreatEqR
namespace Go.Proofs.YtciijpahjjoppaaGreat
open Go.RowKit Go.Deep
set_option maxRecDepth 100000 in
set_option maxHeartbeats 2000000 in
theorem sameRoutine_step (w0 : World) (x y : List D) (hx : ShR x) (hy : ShR y) (vs ws : List Value) (hv : AllAt w0 vs x) (hw : AllAt w0 ws y) (finn : ∀ l l', D.row l ∈ x → D.row l' ∈ y → (∀ z ∈ l, ShR z) → (∀ z ∈ l', ShR z) → EqFn w0 41 l l')
    (W : World) (hW : Below w0.heap.size w0 W) : Calls Tryz.prog 41 #[.agg ⟨vs⟩, .agg ⟨ws⟩] W (EqPost x y W) := by
  obtain ⟨m0, m1, nm, rs, ps, vr, inn, bd, en, m0a, m0c, m1a, m1c, psa, psc, vra, vrc, inna, innc, bda, bdc, ena, enc, rfl, rfl, am0, am1, -, -, aps, avr, ainn, abd, aen, sm0, sm1, sps, svr, sinn, sbd, sen⟩ := hv.openR hx
  obtain ⟨m0', m1', nm', rs', ps', vr', inn', bd', en', m0a', m0c', m1a', m1c', psa', psc', vra', vrc', inna', innc', bda', bdc', ena', enc', rfl, rfl, am0', am1', -, -, aps', avr', ainn', abd', aen', sm0', sm1', sps', svr', sinn', sbd', sen'⟩ := hw.openR hy
  have Pinn := Lib.hid (finn inn inn' (by simp) (by simp) sinn sinn')
  have Pvr := Lib.hid (efn_V w0 vr vr' svr svr')
  have Pbd := Lib.hid (efn_S w0 bd bd' sbd sbd')
  have Am0 := Lib.hid am0
  have Am1 := Lib.hid am1
  have Aps := Lib.hid aps
  have Avr := Lib.hid avr
  have Ainn := Lib.hid ainn
  have Abd := Lib.hid abd
  have Aen := Lib.hid aen
  have Sm0 := Lib.hid sm0
  have Sm1 := Lib.hid sm1
  have Sps := Lib.hid sps
  have Svr := Lib.hid svr
  have Sinn := Lib.hid sinn
  have Sbd := Lib.hid sbd
  have Sen := Lib.hid sen
  have Am0' := Lib.hid am0'
  have Am1' := Lib.hid am1'
  have Aps' := Lib.hid aps'
  have Avr' := Lib.hid avr'
  have Ainn' := Lib.hid ainn'
  have Abd' := Lib.hid abd'
  have Aen' := Lib.hid aen'
  have Sm0' := Lib.hid sm0'
  have Sm1' := Lib.hid sm1'
  have Sps' := Lib.hid sps'
  have Svr' := Lib.hid svr'
  have Sinn' := Lib.hid sinn'
  have Sbd' := Lib.hid sbd'
  have Sen' := Lib.hid sen'
  clear hx hy hv hw am0 am0' am1 am1' aps aps' avr avr' ainn ainn' abd abd' aen aen' sm0 sm0' sm1 sm1' sps sps' svr svr' sinn sinn' sbd sbd' sen sen' finn
  have HW := Lib.hid hW
  clear hW
  go_enter Tryz.func41, Tryz.ntmps41
  go_wp2_with fail
  have R0 := Lib.hid (((Below.refl W.heap.size W).alloc (Nat.le_refl _) (.cells #[.slice m0a m0.length m0c, .slice m1a m1.length m1c, .string nm, .int .i64 rs, .slice psa ps.length psc, .slice vra vr.length vrc, .slice inna inn.length innc, .slice bda bd.length bdc, .slice ena en.length enc] 80)).alloc (by simp) (.cells #[.slice m0a' m0'.length m0c', .slice m1a' m1'.length m1c', .string nm', .int .i64 rs', .slice psa' ps'.length psc', .slice vra' vr'.length vrc', .slice inna' inn'.length innc', .slice bda' bd'.length bdc', .slice ena' en'.length enc'] 80))
  have KA0 := Lib.hid (show ((W.alloc (.cells #[.slice m0a m0.length m0c, .slice m1a m1.length m1c, .string nm, .int .i64 rs, .slice psa ps.length psc, .slice vra vr.length vrc, .slice inna inn.length innc, .slice bda bd.length bdc, .slice ena en.length enc] 80)).alloc (.cells #[.slice m0a' m0'.length m0c', .slice m1a' m1'.length m1c', .string nm', .int .i64 rs', .slice psa' ps'.length psc', .slice vra' vr'.length vrc', .slice inna' inn'.length innc', .slice bda' bd'.length bdc', .slice ena' en'.length enc'] 80)).heap[W.heap.size]? = some (.cells #[.slice m0a m0.length m0c, .slice m1a m1.length m1c, .string nm, .int .i64 rs, .slice psa ps.length psc, .slice vra vr.length vrc, .slice inna inn.length innc, .slice bda bd.length bdc, .slice ena en.length enc] 80) from box_first W (.cells #[.slice m0a m0.length m0c, .slice m1a m1.length m1c, .string nm, .int .i64 rs, .slice psa ps.length psc, .slice vra vr.length vrc, .slice inna inn.length innc, .slice bda bd.length bdc, .slice ena en.length enc] 80) (.cells #[.slice m0a' m0'.length m0c', .slice m1a' m1'.length m1c', .string nm', .int .i64 rs', .slice psa' ps'.length psc', .slice vra' vr'.length vrc', .slice inna' inn'.length innc', .slice bda' bd'.length bdc', .slice ena' en'.length enc'] 80))
  have KB0 := Lib.hid (show ((W.alloc (.cells #[.slice m0a m0.length m0c, .slice m1a m1.length m1c, .string nm, .int .i64 rs, .slice psa ps.length psc, .slice vra vr.length vrc, .slice inna inn.length innc, .slice bda bd.length bdc, .slice ena en.length enc] 80)).alloc (.cells #[.slice m0a' m0'.length m0c', .slice m1a' m1'.length m1c', .string nm', .int .i64 rs', .slice psa' ps'.length psc', .slice vra' vr'.length vrc', .slice inna' inn'.length innc', .slice bda' bd'.length bdc', .slice ena' en'.length enc'] 80)).heap[W.heap.size + 1]? = some (.cells #[.slice m0a' m0'.length m0c', .slice m1a' m1'.length m1c', .string nm', .int .i64 rs', .slice psa' ps'.length psc', .slice vra' vr'.length vrc', .slice inna' inn'.length innc', .slice bda' bd'.length bdc', .slice ena' en'.length enc'] 80) from box_second W (.cells #[.slice m0a m0.length m0c, .slice m1a m1.length m1c, .string nm, .int .i64 rs, .slice psa ps.length psc, .slice vra vr.length vrc, .slice inna inn.length innc, .slice bda bd.length bdc, .slice ena en.length enc] 80) (.cells #[.slice m0a' m0'.length m0c', .slice m1a' m1'.length m1c', .string nm', .int .i64 rs', .slice psa' ps'.length psc', .slice vra' vr'.length vrc', .slice inna' inn'.length innc', .slice bda' bd'.length bdc', .slice ena' en'.length enc'] 80))
  have Z1 := HW.out.trans (R0.out.mono HW.out.size)
  refine (sameMarks_any w0 _ _ _ _ _ _ _ _ _ _ _ _ Am0.out Am1.out Am0'.out Am1'.out Sm0.out Sm1.out Sm0'.out Sm1'.out _ Z1).mono ?_
  rintro e w1 ⟨rfl, b1⟩
  have R1 := Lib.hid (R0.out.trans (b1.mono R0.out.size))
  have KA1 := Lib.hid ((b1.block _ (heap_lt KA0.out)).trans KA0.out)
  have KB1 := Lib.hid ((b1.block _ (heap_lt KB0.out)).trans KB0.out)
  have cA1 := box_cells KA1.out
  have cB1 := box_cells KB1.out
  clear b1 Z1
  cases hM : same (α := List D) [.row m0, .row m1] [.row m0', .row m1'] with
  | false =>
    have GH := Lib.hid (same_neq hM)
    clear hM
    go_wp2_with fail
    go_ret
    exact ⟨by rw [same_no (α := List D) (x := [.row m0, .row m1, .str nm, .int rs, .row ps, .row vr, .row inn, .row bd, .row en]) (y := [.row m0', .row m1', .str nm', .int rs', .row ps', .row vr', .row inn', .row bd', .row en']) (fun z => GH.out (congrArg (fun z : List D => (z.drop 0).take 2) z))]; rfl, R1.out⟩
  | true =>
    have QM := Lib.hid ((same_iff _ _).1 hM)
    clear hM
    cases hnm : nm.toList == nm'.toList with
    | false =>
      have G : nm ≠ nm' := (fun z => by subst z; simp at hnm)
      have GH := Lib.hid G
      clear G
      go_wp2_with fail
      go_ret
      exact ⟨by rw [same_no (α := List D) (x := [.row m0, .row m1, .str nm, .int rs, .row ps, .row vr, .row inn, .row bd, .row en]) (y := [.row m0', .row m1', .str nm', .int rs', .row ps', .row vr', .row inn', .row bd', .row en']) (fun z => GH.out (D.str.inj (congrArg (fun z : List D => nth z 2) z)))]; rfl, R1.out⟩
    | true =>
      have Qnm := Lib.hid (show nm = nm' from ((ba_eq_iff _ _).1 hnm))
      cases hrs : rs == rs' with
      | false =>
        have G : rs ≠ rs' := (by simpa using hrs)
        have GH := Lib.hid G
        clear G
        go_wp2_with fail
        go_ret
        exact ⟨by rw [same_no (α := List D) (x := [.row m0, .row m1, .str nm, .int rs, .row ps, .row vr, .row inn, .row bd, .row en]) (y := [.row m0', .row m1', .str nm', .int rs', .row ps', .row vr', .row inn', .row bd', .row en']) (fun z => GH.out (D.int.inj (congrArg (fun z : List D => nth z 3) z)))]; rfl, R1.out⟩
      | true =>
        have Qrs := Lib.hid (show rs = rs' from (by simpa using hrs))
        go_wp2_with fail
        clear cA1 cB1
        have Z2 := HW.out.trans (R1.out.mono HW.out.size)
        refine (equalP_any w0 _ _ _ _ _ _ _ _ Aps.out Aps'.out Sps.out Sps'.out _ Z2).mono ?_
        rintro e w2 ⟨rfl, b2⟩
        have R2 := Lib.hid (R1.out.trans (b2.mono R1.out.size))
        have KA2 := Lib.hid ((b2.block _ (heap_lt KA1.out)).trans KA1.out)
        have KB2 := Lib.hid ((b2.block _ (heap_lt KB1.out)).trans KB1.out)
        have cA2 := box_cells KA2.out
        have cB2 := box_cells KB2.out
        clear b2 Z2
        cases hps : same ps ps' with
        | false =>
          have GH := Lib.hid (same_neq hps)
          clear hps
          go_wp2_with fail
          go_ret
          exact ⟨by rw [same_no (α := List D) (x := [.row m0, .row m1, .str nm, .int rs, .row ps, .row vr, .row inn, .row bd, .row en]) (y := [.row m0', .row m1', .str nm', .int rs', .row ps', .row vr', .row inn', .row bd', .row en']) (fun z => GH.out (D.row.inj (congrArg (fun z : List D => nth z 4) z)))]; rfl, R2.out⟩
        | true =>
          have Qps := Lib.hid ((same_iff _ _).1 hps)
          clear hps
          go_wp2_with fail
          clear cA2 cB2
          have Z3 := HW.out.trans (R2.out.mono HW.out.size)
          refine (equalV_any w0 _ _ _ _ _ _ _ _ Avr.out Avr'.out Svr.out Svr'.out Pvr.out _ Z3).mono ?_
          rintro e w3 ⟨rfl, b3⟩
          have R3 := Lib.hid (R2.out.trans (b3.mono R2.out.size))
          have KA3 := Lib.hid ((b3.block _ (heap_lt KA2.out)).trans KA2.out)
          have KB3 := Lib.hid ((b3.block _ (heap_lt KB2.out)).trans KB2.out)
          have cA3 := box_cells KA3.out
          have cB3 := box_cells KB3.out
          clear b3 Z3
          cases hvr : same vr vr' with
          | false =>
            have GH := Lib.hid (same_neq hvr)
            clear hvr
            go_wp2_with fail
            go_ret
            exact ⟨by rw [same_no (α := List D) (x := [.row m0, .row m1, .str nm, .int rs, .row ps, .row vr, .row inn, .row bd, .row en]) (y := [.row m0', .row m1', .str nm', .int rs', .row ps', .row vr', .row inn', .row bd', .row en']) (fun z => GH.out (D.row.inj (congrArg (fun z : List D => nth z 5) z)))]; rfl, R3.out⟩
          | true =>
            have Qvr := Lib.hid ((same_iff _ _).1 hvr)
            clear hvr
            go_wp2_with fail
            clear cA3 cB3
            have Z4 := HW.out.trans (R3.out.mono HW.out.size)
            refine (equalR_any w0 _ _ _ _ _ _ _ _ Ainn.out Ainn'.out Sinn.out Sinn'.out Pinn.out _ Z4).mono ?_
            rintro e w4 ⟨rfl, b4⟩
            have R4 := Lib.hid (R3.out.trans (b4.mono R3.out.size))
            have KA4 := Lib.hid ((b4.block _ (heap_lt KA3.out)).trans KA3.out)
            have KB4 := Lib.hid ((b4.block _ (heap_lt KB3.out)).trans KB3.out)
            have cA4 := box_cells KA4.out
            have cB4 := box_cells KB4.out
            clear b4 Z4
            cases hinn : same inn inn' with
            | false =>
              have GH := Lib.hid (same_neq hinn)
              clear hinn
              go_wp2_with fail
              go_ret
              exact ⟨by rw [same_no (α := List D) (x := [.row m0, .row m1, .str nm, .int rs, .row ps, .row vr, .row inn, .row bd, .row en]) (y := [.row m0', .row m1', .str nm', .int rs', .row ps', .row vr', .row inn', .row bd', .row en']) (fun z => GH.out (D.row.inj (congrArg (fun z : List D => nth z 6) z)))]; rfl, R4.out⟩
            | true =>
              have Qinn := Lib.hid ((same_iff _ _).1 hinn)
              clear hinn
              go_wp2_with fail
              clear cA4 cB4
              have Z5 := HW.out.trans (R4.out.mono HW.out.size)
              refine (equalS_any w0 _ _ _ _ _ _ _ _ Abd.out Abd'.out Sbd.out Sbd'.out Pbd.out _ Z5).mono ?_
              rintro e w5 ⟨rfl, b5⟩
              have R5 := Lib.hid (R4.out.trans (b5.mono R4.out.size))
              have KA5 := Lib.hid ((b5.block _ (heap_lt KA4.out)).trans KA4.out)
              have KB5 := Lib.hid ((b5.block _ (heap_lt KB4.out)).trans KB4.out)
              have cA5 := box_cells KA5.out
              have cB5 := box_cells KB5.out
              clear b5 Z5
              cases hbd : same bd bd' with
              | false =>
                have GH := Lib.hid (same_neq hbd)
                clear hbd
                go_wp2_with fail
                go_ret
                exact ⟨by rw [same_no (α := List D) (x := [.row m0, .row m1, .str nm, .int rs, .row ps, .row vr, .row inn, .row bd, .row en]) (y := [.row m0', .row m1', .str nm', .int rs', .row ps', .row vr', .row inn', .row bd', .row en']) (fun z => GH.out (D.row.inj (congrArg (fun z : List D => nth z 7) z)))]; rfl, R5.out⟩
              | true =>
                have Qbd := Lib.hid ((same_iff _ _).1 hbd)
                clear hbd
                go_wp2_with fail
                clear cA5 cB5
                have Z6 := HW.out.trans (R5.out.mono HW.out.size)
                refine (equalT_any w0 _ _ _ _ _ _ _ _ Aen.out Aen'.out Sen.out Sen'.out _ Z6).mono ?_
                rintro e w6 ⟨rfl, b6⟩
                have R6 := Lib.hid (R5.out.trans (b6.mono R5.out.size))
                have KA6 := Lib.hid ((b6.block _ (heap_lt KA5.out)).trans KA5.out)
                have KB6 := Lib.hid ((b6.block _ (heap_lt KB5.out)).trans KB5.out)
                have cA6 := box_cells KA6.out
                have cB6 := box_cells KB6.out
                clear b6 Z6
                cases hen : same en en' with
                | false =>
                  have GH := Lib.hid (same_neq hen)
                  clear hen
                  go_wp2_with fail
                  go_ret
                  exact ⟨by rw [same_no (α := List D) (x := [.row m0, .row m1, .str nm, .int rs, .row ps, .row vr, .row inn, .row bd, .row en]) (y := [.row m0', .row m1', .str nm', .int rs', .row ps', .row vr', .row inn', .row bd', .row en']) (fun z => GH.out (D.row.inj (congrArg (fun z : List D => nth z 8) z)))]; rfl, R6.out⟩
                | true =>
                  have Qen := Lib.hid ((same_iff _ _).1 hen)
                  clear hen
                  have E := Lib.hid (show same (α := List D) [.row m0, .row m1, .str nm, .int rs, .row ps, .row vr, .row inn, .row bd, .row en] [.row m0', .row m1', .str nm', .int rs', .row ps', .row vr', .row inn', .row bd', .row en'] = true by
                    obtain ⟨rfl, rfl⟩ : m0 = m0' ∧ m1 = m1' := by simpa using QM.out
                    obtain rfl := Qnm.out
                    obtain rfl := Qrs.out
                    obtain rfl := Qps.out
                    obtain rfl := Qvr.out
                    obtain rfl := Qinn.out
                    obtain rfl := Qbd.out
                    obtain rfl := Qen.out
                    exact same_refl _)
                  go_wp2_with fail
                  go_ret
                  exact ⟨by rw [E.out]; rfl, R6.out⟩
theorem sameRoutine_upto (w0 : World) (n : Nat) : ∀ x y : List D, SizeOf.sizeOf x ≤ n → ShR x → ShR y → ∀ vs ws, AllAt w0 vs x → AllAt w0 ws y → ∀ W, Below w0.heap.size w0 W → Calls Tryz.prog 41 #[.agg ⟨vs⟩, .agg ⟨ws⟩] W (EqPost x y W) := by
  induction n with
  | zero => intro x y h; have := size_pos x; omega
  | succ n ih =>
    intro x y hn hx hy vs ws hv hw W hW
    exact sameRoutine_step w0 x y hx hy vs ws hv hw (fun l l' hl _ hs hs' z hz z' hz' vs ws hv hw W hW => ih z z' (by have := size_in hl hz; omega) (hs z hz) (hs' z' hz') vs ws hv hw W hW) W hW
theorem efn_R (w0 : World) (l l' : List (List D)) (hs : ∀ z ∈ l, ShR z) (hs' : ∀ z ∈ l', ShR z) : EqFn w0 41 l l' := fun x hx y hy vs ws hv hw W hW => sameRoutine_upto w0 _ x y (Nat.le_refl _) (hs x hx) (hs' y hy) vs ws hv hw W hW
end Go.Proofs.YtciijpahjjoppaaGreat
