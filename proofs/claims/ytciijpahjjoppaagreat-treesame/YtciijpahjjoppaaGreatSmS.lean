/-
  Two structs compared field by field: walked.
-/
import Derived.Test.YtciijpahjjoppaaGreatSmM
import Derived.Test.YtciijpahjjoppaaGreatSnE
import Derived.Test.YtciijpahjjoppaaGreatEqS
namespace Go.Proofs.YtciijpahjjoppaaGreat
open Go.RowKit Go.Deep
set_option maxRecDepth 100000 in
set_option maxHeartbeats 2000000 in
theorem sameStmt_step (w0 : World) (x y : List D) (hx : ShS x) (hy : ShS y) (vs ws : List Value) (hv : AllAt w0 vs x) (hw : AllAt w0 ws y) (fbd : ∀ l l', D.row l ∈ x → D.row l' ∈ y → (∀ z ∈ l, ShS z) → (∀ z ∈ l', ShS z) → EqFn w0 43 l l')
    (W : World) (hW : Below w0.heap.size w0 W) : Calls Tryz.prog 43 #[.agg ⟨vs⟩, .agg ⟨ws⟩] W (EqPost x y W) := by
  obtain ⟨m0, m1, op, nm, pop, pn, pnm, pfd, pl, ex, dn, mo, bd, el, en, e2, m0a, m0c, m1a, m1c, pla, plc, exa, exc, bda, bdc, ela, elc, ena, enc, e2a, e2c, rfl, rfl, am0, am1, -, -, ipop, ipn, ipnm, ipfd, apl, aex, abd, ael, aen, ae2, sm0, sm1, spl, sex, sbd, sel, sen, se2⟩ := hv.openS hx
  obtain ⟨m0', m1', op', nm', pop', pn', pnm', pfd', pl', ex', dn', mo', bd', el', en', e2', m0a', m0c', m1a', m1c', pla', plc', exa', exc', bda', bdc', ela', elc', ena', enc', e2a', e2c', rfl, rfl, am0', am1', -, -, ipop', ipn', ipnm', ipfd', apl', aex', abd', ael', aen', ae2', sm0', sm1', spl', sex', sbd', sel', sen', se2'⟩ := hw.openS hy
  have Pbd := Lib.hid (fbd bd bd' (by simp) (by simp) sbd sbd')
  have Pel := Lib.hid (fbd el el' (by simp) (by simp) sel sel')
  have Pex := Lib.hid (efn_E w0 ex ex' sex sex')
  have xpl : AllAt w0 [.int .i64 pop, .int .i64 pn, .string pnm, .string pfd, .slice pla pl.length plc] [.int pop, .int pn, .str pnm, .str pfd, .row pl] := ⟨.int _ ipop.1 ipop.2, .int _ ipn.1 ipn.2, .str _ ipnm, .str _ ipfd, apl, trivial⟩
  have xpl' : AllAt w0 [.int .i64 pop', .int .i64 pn', .string pnm', .string pfd', .slice pla' pl'.length plc'] [.int pop', .int pn', .str pnm', .str pfd', .row pl'] := ⟨.int _ ipop'.1 ipop'.2, .int _ ipn'.1 ipn'.2, .str _ ipnm', .str _ ipfd', apl', trivial⟩
  have PEc := Lib.hid (fun W hW => sameExpr_any w0 _ _ (.mk _ _ _ _ _ spl) (.mk _ _ _ _ _ spl') _ _ xpl xpl' W hW)
  clear xpl xpl' ipop ipn ipnm ipfd ipop' ipn' ipnm' ipfd'
  have Am0 := Lib.hid am0
  have Am1 := Lib.hid am1
  have Apl := Lib.hid apl
  have Aex := Lib.hid aex
  have Abd := Lib.hid abd
  have Ael := Lib.hid ael
  have Aen := Lib.hid aen
  have Ae2 := Lib.hid ae2
  have Sm0 := Lib.hid sm0
  have Sm1 := Lib.hid sm1
  have Spl := Lib.hid spl
  have Sex := Lib.hid sex
  have Sbd := Lib.hid sbd
  have Sel := Lib.hid sel
  have Sen := Lib.hid sen
  have Se2 := Lib.hid se2
  have Am0' := Lib.hid am0'
  have Am1' := Lib.hid am1'
  have Apl' := Lib.hid apl'
  have Aex' := Lib.hid aex'
  have Abd' := Lib.hid abd'
  have Ael' := Lib.hid ael'
  have Aen' := Lib.hid aen'
  have Ae2' := Lib.hid ae2'
  have Sm0' := Lib.hid sm0'
  have Sm1' := Lib.hid sm1'
  have Spl' := Lib.hid spl'
  have Sex' := Lib.hid sex'
  have Sbd' := Lib.hid sbd'
  have Sel' := Lib.hid sel'
  have Sen' := Lib.hid sen'
  have Se2' := Lib.hid se2'
  clear hx hy hv hw am0 am0' am1 am1' apl apl' aex aex' abd abd' ael ael' aen aen' ae2 ae2' sm0 sm0' sm1 sm1' spl spl' sex sex' sbd sbd' sel sel' sen sen' se2 se2' fbd
  have HW := Lib.hid hW
  clear hW
  go_enter Tryz.func43, Tryz.ntmps43
  go_wp2_with fail
  have R0 := Lib.hid (((Below.refl W.heap.size W).alloc (Nat.le_refl _) (.cells #[.slice m0a m0.length m0c, .slice m1a m1.length m1c, .int .i64 op, .string nm, .int .i64 pop, .int .i64 pn, .string pnm, .string pfd, .slice pla pl.length plc, .slice exa ex.length exc, .bool dn, .bool mo, .slice bda bd.length bdc, .slice ela el.length elc, .slice ena en.length enc, .slice e2a e2.length e2c] 84)).alloc (by simp) (.cells #[.slice m0a' m0'.length m0c', .slice m1a' m1'.length m1c', .int .i64 op', .string nm', .int .i64 pop', .int .i64 pn', .string pnm', .string pfd', .slice pla' pl'.length plc', .slice exa' ex'.length exc', .bool dn', .bool mo', .slice bda' bd'.length bdc', .slice ela' el'.length elc', .slice ena' en'.length enc', .slice e2a' e2'.length e2c'] 84))
  have KA0 := Lib.hid (show ((W.alloc (.cells #[.slice m0a m0.length m0c, .slice m1a m1.length m1c, .int .i64 op, .string nm, .int .i64 pop, .int .i64 pn, .string pnm, .string pfd, .slice pla pl.length plc, .slice exa ex.length exc, .bool dn, .bool mo, .slice bda bd.length bdc, .slice ela el.length elc, .slice ena en.length enc, .slice e2a e2.length e2c] 84)).alloc (.cells #[.slice m0a' m0'.length m0c', .slice m1a' m1'.length m1c', .int .i64 op', .string nm', .int .i64 pop', .int .i64 pn', .string pnm', .string pfd', .slice pla' pl'.length plc', .slice exa' ex'.length exc', .bool dn', .bool mo', .slice bda' bd'.length bdc', .slice ela' el'.length elc', .slice ena' en'.length enc', .slice e2a' e2'.length e2c'] 84)).heap[W.heap.size]? = some (.cells #[.slice m0a m0.length m0c, .slice m1a m1.length m1c, .int .i64 op, .string nm, .int .i64 pop, .int .i64 pn, .string pnm, .string pfd, .slice pla pl.length plc, .slice exa ex.length exc, .bool dn, .bool mo, .slice bda bd.length bdc, .slice ela el.length elc, .slice ena en.length enc, .slice e2a e2.length e2c] 84) from box_first W (.cells #[.slice m0a m0.length m0c, .slice m1a m1.length m1c, .int .i64 op, .string nm, .int .i64 pop, .int .i64 pn, .string pnm, .string pfd, .slice pla pl.length plc, .slice exa ex.length exc, .bool dn, .bool mo, .slice bda bd.length bdc, .slice ela el.length elc, .slice ena en.length enc, .slice e2a e2.length e2c] 84) (.cells #[.slice m0a' m0'.length m0c', .slice m1a' m1'.length m1c', .int .i64 op', .string nm', .int .i64 pop', .int .i64 pn', .string pnm', .string pfd', .slice pla' pl'.length plc', .slice exa' ex'.length exc', .bool dn', .bool mo', .slice bda' bd'.length bdc', .slice ela' el'.length elc', .slice ena' en'.length enc', .slice e2a' e2'.length e2c'] 84))
  have KB0 := Lib.hid (show ((W.alloc (.cells #[.slice m0a m0.length m0c, .slice m1a m1.length m1c, .int .i64 op, .string nm, .int .i64 pop, .int .i64 pn, .string pnm, .string pfd, .slice pla pl.length plc, .slice exa ex.length exc, .bool dn, .bool mo, .slice bda bd.length bdc, .slice ela el.length elc, .slice ena en.length enc, .slice e2a e2.length e2c] 84)).alloc (.cells #[.slice m0a' m0'.length m0c', .slice m1a' m1'.length m1c', .int .i64 op', .string nm', .int .i64 pop', .int .i64 pn', .string pnm', .string pfd', .slice pla' pl'.length plc', .slice exa' ex'.length exc', .bool dn', .bool mo', .slice bda' bd'.length bdc', .slice ela' el'.length elc', .slice ena' en'.length enc', .slice e2a' e2'.length e2c'] 84)).heap[W.heap.size + 1]? = some (.cells #[.slice m0a' m0'.length m0c', .slice m1a' m1'.length m1c', .int .i64 op', .string nm', .int .i64 pop', .int .i64 pn', .string pnm', .string pfd', .slice pla' pl'.length plc', .slice exa' ex'.length exc', .bool dn', .bool mo', .slice bda' bd'.length bdc', .slice ela' el'.length elc', .slice ena' en'.length enc', .slice e2a' e2'.length e2c'] 84) from box_second W (.cells #[.slice m0a m0.length m0c, .slice m1a m1.length m1c, .int .i64 op, .string nm, .int .i64 pop, .int .i64 pn, .string pnm, .string pfd, .slice pla pl.length plc, .slice exa ex.length exc, .bool dn, .bool mo, .slice bda bd.length bdc, .slice ela el.length elc, .slice ena en.length enc, .slice e2a e2.length e2c] 84) (.cells #[.slice m0a' m0'.length m0c', .slice m1a' m1'.length m1c', .int .i64 op', .string nm', .int .i64 pop', .int .i64 pn', .string pnm', .string pfd', .slice pla' pl'.length plc', .slice exa' ex'.length exc', .bool dn', .bool mo', .slice bda' bd'.length bdc', .slice ela' el'.length elc', .slice ena' en'.length enc', .slice e2a' e2'.length e2c'] 84))
  have Z1 := HW.out.trans (R0.out.mono HW.out.size)
  refine (sameMarks_any w0 _ _ _ _ _ _ _ _ _ _ _ _ Am0.out Am1.out Am0'.out Am1'.out Sm0.out Sm1.out Sm0'.out Sm1'.out _ Z1).mono ?_
  rintro e w1 ⟨rfl, b1⟩
  have R1 := Lib.hid (R0.out.trans (b1.mono R0.out.size))
  have KA1 := Lib.hid ((b1.block _ (heap_lt KA0.out)).trans KA0.out)
  have KB1 := Lib.hid ((b1.block _ (heap_lt KB0.out)).trans KB0.out)
  have cA1 := box_cells KA1.out
  have cB1 := box_cells KB1.out
  clear b1 Z1
  cases hM : same (α := List D) [.row m0, .row m1] [.row m0', .row m1'] with
  | false =>
    have GH := Lib.hid (same_neq hM)
    clear hM
    go_wp2_with fail
    go_ret
    exact ⟨by rw [same_no (α := List D) (x := [.row m0, .row m1, .int op, .str nm, .int pop, .int pn, .str pnm, .str pfd, .row pl, .row ex, .bool dn, .bool mo, .row bd, .row el, .row en, .row e2]) (y := [.row m0', .row m1', .int op', .str nm', .int pop', .int pn', .str pnm', .str pfd', .row pl', .row ex', .bool dn', .bool mo', .row bd', .row el', .row en', .row e2']) (fun z => GH.out (congrArg (fun z : List D => (z.drop 0).take 2) z))]; rfl, R1.out⟩
  | true =>
    have QM := Lib.hid ((same_iff _ _).1 hM)
    clear hM
    cases hop : op == op' with
    | false =>
      have G : op ≠ op' := (by simpa using hop)
      have GH := Lib.hid G
      clear G
      go_wp2_with fail
      go_ret
      exact ⟨by rw [same_no (α := List D) (x := [.row m0, .row m1, .int op, .str nm, .int pop, .int pn, .str pnm, .str pfd, .row pl, .row ex, .bool dn, .bool mo, .row bd, .row el, .row en, .row e2]) (y := [.row m0', .row m1', .int op', .str nm', .int pop', .int pn', .str pnm', .str pfd', .row pl', .row ex', .bool dn', .bool mo', .row bd', .row el', .row en', .row e2']) (fun z => GH.out (D.int.inj (congrArg (fun z : List D => nth z 2) z)))]; rfl, R1.out⟩
    | true =>
      have Qop := Lib.hid (show op = op' from (by simpa using hop))
      cases hnm : nm.toList == nm'.toList with
      | false =>
        have G : nm ≠ nm' := (fun z => by subst z; simp at hnm)
        have GH := Lib.hid G
        clear G
        go_wp2_with fail
        go_ret
        exact ⟨by rw [same_no (α := List D) (x := [.row m0, .row m1, .int op, .str nm, .int pop, .int pn, .str pnm, .str pfd, .row pl, .row ex, .bool dn, .bool mo, .row bd, .row el, .row en, .row e2]) (y := [.row m0', .row m1', .int op', .str nm', .int pop', .int pn', .str pnm', .str pfd', .row pl', .row ex', .bool dn', .bool mo', .row bd', .row el', .row en', .row e2']) (fun z => GH.out (D.str.inj (congrArg (fun z : List D => nth z 3) z)))]; rfl, R1.out⟩
      | true =>
        have Qnm := Lib.hid (show nm = nm' from ((ba_eq_iff _ _).1 hnm))
        go_wp2_with fail
        clear cA1 cB1
        have Z2 := HW.out.trans (R1.out.mono HW.out.size)
        refine (PEc.out _ Z2).mono ?_
        rintro e w2 ⟨rfl, b2⟩
        have R2 := Lib.hid (R1.out.trans (b2.mono R1.out.size))
        have KA2 := Lib.hid ((b2.block _ (heap_lt KA1.out)).trans KA1.out)
        have KB2 := Lib.hid ((b2.block _ (heap_lt KB1.out)).trans KB1.out)
        have cA2 := box_cells KA2.out
        have cB2 := box_cells KB2.out
        clear b2 Z2
        cases hPE : same (α := List D) [.int pop, .int pn, .str pnm, .str pfd, .row pl] [.int pop', .int pn', .str pnm', .str pfd', .row pl'] with
        | false =>
          have GH := Lib.hid (same_neq hPE)
          clear hPE
          go_wp2_with fail
          go_ret
          exact ⟨by rw [same_no (α := List D) (x := [.row m0, .row m1, .int op, .str nm, .int pop, .int pn, .str pnm, .str pfd, .row pl, .row ex, .bool dn, .bool mo, .row bd, .row el, .row en, .row e2]) (y := [.row m0', .row m1', .int op', .str nm', .int pop', .int pn', .str pnm', .str pfd', .row pl', .row ex', .bool dn', .bool mo', .row bd', .row el', .row en', .row e2']) (fun z => GH.out (congrArg (fun z : List D => (z.drop 4).take 5) z))]; rfl, R2.out⟩
        | true =>
          have QPE := Lib.hid ((same_iff _ _).1 hPE)
          clear hPE
          go_wp2_with fail
          clear cA2 cB2
          have Z3 := HW.out.trans (R2.out.mono HW.out.size)
          refine (equalE_any w0 _ _ _ _ _ _ _ _ Aex.out Aex'.out Sex.out Sex'.out Pex.out _ Z3).mono ?_
          rintro e w3 ⟨rfl, b3⟩
          have R3 := Lib.hid (R2.out.trans (b3.mono R2.out.size))
          have KA3 := Lib.hid ((b3.block _ (heap_lt KA2.out)).trans KA2.out)
          have KB3 := Lib.hid ((b3.block _ (heap_lt KB2.out)).trans KB2.out)
          have cA3 := box_cells KA3.out
          have cB3 := box_cells KB3.out
          clear b3 Z3
          cases hex : same ex ex' with
          | false =>
            have GH := Lib.hid (same_neq hex)
            clear hex
            go_wp2_with fail
            go_ret
            exact ⟨by rw [same_no (α := List D) (x := [.row m0, .row m1, .int op, .str nm, .int pop, .int pn, .str pnm, .str pfd, .row pl, .row ex, .bool dn, .bool mo, .row bd, .row el, .row en, .row e2]) (y := [.row m0', .row m1', .int op', .str nm', .int pop', .int pn', .str pnm', .str pfd', .row pl', .row ex', .bool dn', .bool mo', .row bd', .row el', .row en', .row e2']) (fun z => GH.out (D.row.inj (congrArg (fun z : List D => nth z 9) z)))]; rfl, R3.out⟩
          | true =>
            have Qex := Lib.hid ((same_iff _ _).1 hex)
            clear hex
            cases hdn : dn == dn' with
            | false =>
              have G : dn ≠ dn' := (by simpa using hdn)
              have GH := Lib.hid G
              clear G
              go_wp2_with fail
              go_ret
              exact ⟨by rw [same_no (α := List D) (x := [.row m0, .row m1, .int op, .str nm, .int pop, .int pn, .str pnm, .str pfd, .row pl, .row ex, .bool dn, .bool mo, .row bd, .row el, .row en, .row e2]) (y := [.row m0', .row m1', .int op', .str nm', .int pop', .int pn', .str pnm', .str pfd', .row pl', .row ex', .bool dn', .bool mo', .row bd', .row el', .row en', .row e2']) (fun z => GH.out (D.bool.inj (congrArg (fun z : List D => nth z 10) z)))]; rfl, R3.out⟩
            | true =>
              have Qdn := Lib.hid (show dn = dn' from (by simpa using hdn))
              cases hmo : mo == mo' with
              | false =>
                have G : mo ≠ mo' := (by simpa using hmo)
                have GH := Lib.hid G
                clear G
                go_wp2_with fail
                go_ret
                exact ⟨by rw [same_no (α := List D) (x := [.row m0, .row m1, .int op, .str nm, .int pop, .int pn, .str pnm, .str pfd, .row pl, .row ex, .bool dn, .bool mo, .row bd, .row el, .row en, .row e2]) (y := [.row m0', .row m1', .int op', .str nm', .int pop', .int pn', .str pnm', .str pfd', .row pl', .row ex', .bool dn', .bool mo', .row bd', .row el', .row en', .row e2']) (fun z => GH.out (D.bool.inj (congrArg (fun z : List D => nth z 11) z)))]; rfl, R3.out⟩
              | true =>
                have Qmo := Lib.hid (show mo = mo' from (by simpa using hmo))
                go_wp2_with fail
                clear cA3 cB3
                have Z4 := HW.out.trans (R3.out.mono HW.out.size)
                refine (equalS_any w0 _ _ _ _ _ _ _ _ Abd.out Abd'.out Sbd.out Sbd'.out Pbd.out _ Z4).mono ?_
                rintro e w4 ⟨rfl, b4⟩
                have R4 := Lib.hid (R3.out.trans (b4.mono R3.out.size))
                have KA4 := Lib.hid ((b4.block _ (heap_lt KA3.out)).trans KA3.out)
                have KB4 := Lib.hid ((b4.block _ (heap_lt KB3.out)).trans KB3.out)
                have cA4 := box_cells KA4.out
                have cB4 := box_cells KB4.out
                clear b4 Z4
                cases hbd : same bd bd' with
                | false =>
                  have GH := Lib.hid (same_neq hbd)
                  clear hbd
                  go_wp2_with fail
                  go_ret
                  exact ⟨by rw [same_no (α := List D) (x := [.row m0, .row m1, .int op, .str nm, .int pop, .int pn, .str pnm, .str pfd, .row pl, .row ex, .bool dn, .bool mo, .row bd, .row el, .row en, .row e2]) (y := [.row m0', .row m1', .int op', .str nm', .int pop', .int pn', .str pnm', .str pfd', .row pl', .row ex', .bool dn', .bool mo', .row bd', .row el', .row en', .row e2']) (fun z => GH.out (D.row.inj (congrArg (fun z : List D => nth z 12) z)))]; rfl, R4.out⟩
                | true =>
                  have Qbd := Lib.hid ((same_iff _ _).1 hbd)
                  clear hbd
                  go_wp2_with fail
                  clear cA4 cB4
                  have Z5 := HW.out.trans (R4.out.mono HW.out.size)
                  refine (equalT_any w0 _ _ _ _ _ _ _ _ Aen.out Aen'.out Sen.out Sen'.out _ Z5).mono ?_
                  rintro e w5 ⟨rfl, b5⟩
                  have R5 := Lib.hid (R4.out.trans (b5.mono R4.out.size))
                  have KA5 := Lib.hid ((b5.block _ (heap_lt KA4.out)).trans KA4.out)
                  have KB5 := Lib.hid ((b5.block _ (heap_lt KB4.out)).trans KB4.out)
                  have cA5 := box_cells KA5.out
                  have cB5 := box_cells KB5.out
                  clear b5 Z5
                  cases hen : same en en' with
                  | false =>
                    have GH := Lib.hid (same_neq hen)
                    clear hen
                    go_wp2_with fail
                    go_ret
                    exact ⟨by rw [same_no (α := List D) (x := [.row m0, .row m1, .int op, .str nm, .int pop, .int pn, .str pnm, .str pfd, .row pl, .row ex, .bool dn, .bool mo, .row bd, .row el, .row en, .row e2]) (y := [.row m0', .row m1', .int op', .str nm', .int pop', .int pn', .str pnm', .str pfd', .row pl', .row ex', .bool dn', .bool mo', .row bd', .row el', .row en', .row e2']) (fun z => GH.out (D.row.inj (congrArg (fun z : List D => nth z 14) z)))]; rfl, R5.out⟩
                  | true =>
                    have Qen := Lib.hid ((same_iff _ _).1 hen)
                    clear hen
                    go_wp2_with fail
                    clear cA5 cB5
                    have Z6 := HW.out.trans (R5.out.mono HW.out.size)
                    refine (equalS_any w0 _ _ _ _ _ _ _ _ Ael.out Ael'.out Sel.out Sel'.out Pel.out _ Z6).mono ?_
                    rintro e w6 ⟨rfl, b6⟩
                    have R6 := Lib.hid (R5.out.trans (b6.mono R5.out.size))
                    have KA6 := Lib.hid ((b6.block _ (heap_lt KA5.out)).trans KA5.out)
                    have KB6 := Lib.hid ((b6.block _ (heap_lt KB5.out)).trans KB5.out)
                    have cA6 := box_cells KA6.out
                    have cB6 := box_cells KB6.out
                    clear b6 Z6
                    cases hel : same el el' with
                    | false =>
                      have GH := Lib.hid (same_neq hel)
                      clear hel
                      go_wp2_with fail
                      go_ret
                      exact ⟨by rw [same_no (α := List D) (x := [.row m0, .row m1, .int op, .str nm, .int pop, .int pn, .str pnm, .str pfd, .row pl, .row ex, .bool dn, .bool mo, .row bd, .row el, .row en, .row e2]) (y := [.row m0', .row m1', .int op', .str nm', .int pop', .int pn', .str pnm', .str pfd', .row pl', .row ex', .bool dn', .bool mo', .row bd', .row el', .row en', .row e2']) (fun z => GH.out (D.row.inj (congrArg (fun z : List D => nth z 13) z)))]; rfl, R6.out⟩
                    | true =>
                      have Qel := Lib.hid ((same_iff _ _).1 hel)
                      clear hel
                      go_wp2_with fail
                      clear cA6 cB6
                      have Z7 := HW.out.trans (R6.out.mono HW.out.size)
                      refine (equalT_any w0 _ _ _ _ _ _ _ _ Ae2.out Ae2'.out Se2.out Se2'.out _ Z7).mono ?_
                      rintro e w7 ⟨rfl, b7⟩
                      have R7 := Lib.hid (R6.out.trans (b7.mono R6.out.size))
                      have KA7 := Lib.hid ((b7.block _ (heap_lt KA6.out)).trans KA6.out)
                      have KB7 := Lib.hid ((b7.block _ (heap_lt KB6.out)).trans KB6.out)
                      have cA7 := box_cells KA7.out
                      have cB7 := box_cells KB7.out
                      clear b7 Z7
                      cases he2 : same e2 e2' with
                      | false =>
                        have GH := Lib.hid (same_neq he2)
                        clear he2
                        go_wp2_with fail
                        go_ret
                        exact ⟨by rw [same_no (α := List D) (x := [.row m0, .row m1, .int op, .str nm, .int pop, .int pn, .str pnm, .str pfd, .row pl, .row ex, .bool dn, .bool mo, .row bd, .row el, .row en, .row e2]) (y := [.row m0', .row m1', .int op', .str nm', .int pop', .int pn', .str pnm', .str pfd', .row pl', .row ex', .bool dn', .bool mo', .row bd', .row el', .row en', .row e2']) (fun z => GH.out (D.row.inj (congrArg (fun z : List D => nth z 15) z)))]; rfl, R7.out⟩
                      | true =>
                        have Qe2 := Lib.hid ((same_iff _ _).1 he2)
                        clear he2
                        have E := Lib.hid (show same (α := List D) [.row m0, .row m1, .int op, .str nm, .int pop, .int pn, .str pnm, .str pfd, .row pl, .row ex, .bool dn, .bool mo, .row bd, .row el, .row en, .row e2] [.row m0', .row m1', .int op', .str nm', .int pop', .int pn', .str pnm', .str pfd', .row pl', .row ex', .bool dn', .bool mo', .row bd', .row el', .row en', .row e2'] = true by
                          obtain ⟨rfl, rfl⟩ : m0 = m0' ∧ m1 = m1' := by simpa using QM.out
                          obtain rfl := Qop.out
                          obtain rfl := Qnm.out
                          obtain ⟨rfl, rfl, rfl, rfl, rfl⟩ : pop = pop' ∧ pn = pn' ∧ pnm = pnm' ∧ pfd = pfd' ∧ pl = pl' := by simpa using QPE.out
                          obtain rfl := Qex.out
                          obtain rfl := Qdn.out
                          obtain rfl := Qmo.out
                          obtain rfl := Qbd.out
                          obtain rfl := Qen.out
                          obtain rfl := Qel.out
                          obtain rfl := Qe2.out
                          exact same_refl _)
                        go_wp2_with fail
                        go_ret
                        exact ⟨by rw [E.out]; rfl, R7.out⟩
theorem sameStmt_upto (w0 : World) (n : Nat) : ∀ x y : List D, SizeOf.sizeOf x ≤ n → ShS x → ShS y → ∀ vs ws, AllAt w0 vs x → AllAt w0 ws y → ∀ W, Below w0.heap.size w0 W → Calls Tryz.prog 43 #[.agg ⟨vs⟩, .agg ⟨ws⟩] W (EqPost x y W) := by
  induction n with
  | zero => intro x y h; have := size_pos x; omega
  | succ n ih =>
    intro x y hn hx hy vs ws hv hw W hW
    exact sameStmt_step w0 x y hx hy vs ws hv hw (fun l l' hl _ hs hs' z hz z' hz' vs ws hv hw W hW => ih z z' (by have := size_in hl hz; omega) (hs z hz) (hs' z' hz') vs ws hv hw W hW) W hW
theorem efn_S (w0 : World) (l l' : List (List D)) (hs : ∀ z ∈ l, ShS z) (hs' : ∀ z ∈ l', ShS z) : EqFn w0 43 l l' := fun x hx y hy vs ws hv hw W hW => sameStmt_upto w0 _ x y (Nat.le_refl _) (hs x hx) (hs' y hy) vs ws hv hw W hW
end Go.Proofs.YtciijpahjjoppaaGreat
