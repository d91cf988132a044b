/-
  The reference's comparisons: walked.
-/
import Derived.Test.YtciijpahjjoppaaGreatRse
import Derived.Test.YtciijpahjjoppaaGreatRsm
import Derived.Test.YtciijpahjjoppaaGreatPai
import Derived.Test.YtciijpahjjoppaaGreatOpn
namespace Go.Proofs.YtciijpahjjoppaaGreat
open Go.RowKit Go.Deep Go.Sort
set_option maxRecDepth 100000 in
set_option maxHeartbeats 4000000 in
theorem refStmts_step (w0 : World) (l l' : List (List D)) (hs : ∀ x ∈ l, ShS x) (hs' : ∀ x ∈ l', ShS x) (hf : ∀ m m', (∃ x ∈ l, D.row m ∈ x) → (∀ z ∈ m, ShS z) → (∀ z ∈ m', ShS z) → RowsEq w0 47 m m') : RowsEq w0 47 l l' := by
  intro a a' len len' cap cap' hA hA' W hW
  have HF := Lib.hid hf
  have HA := Lib.hid hA
  have HA' := Lib.hid hA'
  have HS := Lib.hid hs
  have HS' := Lib.hid hs'
  have HW := Lib.hid hW
  have hle := hA.len_le
  have hle' := hA'.len_le
  have HL := Lib.hid hA.len_eq.1
  have HL' := Lib.hid hA'.len_eq.1
  clear hA hA' hs hs' hW hf
  by_cases hn : len = len'
  · subst hn
    go_enter Tryz.func47, Tryz.ntmps47
    go_wp2_with fail
    go_loopw [5] (fun i wr => ∃ k : Nat, k ≤ len ∧ i = .int .i64 k ∧ l.take k = l'.take k ∧ Below W.heap.size W wr) (fun i _ => len - (intOf i).toNat)
    case atStart => exact ⟨0, Nat.zero_le _, rfl, rfl, Below.refl _ _⟩
    case round =>
      obtain ⟨k, hk, rfl, ht, hb⟩ := hrel
      have HT := Lib.hid ht
      have HB := Lib.hid hb
      clear ht hb
      by_cases hlt : k < len
      · obtain ⟨b, o, vs, ds, rfl, hbl, hx, hv, hc⟩ := HA.out.elem hlt
        obtain ⟨b', o', vs', ds', rfl, hbl', hx', hv', hc'⟩ := HA'.out.elem hlt
        have B0 := HW.out.trans (HB.out.mono HW.out.size)
        have hbw : b < wr.heap.size := Nat.lt_of_lt_of_le hbl B0.size
        have hbw' : b' < wr.heap.size := Nat.lt_of_lt_of_le hbl' B0.size
        have HX := Lib.hid hx
        have HX' := Lib.hid hx'
        have SX := Lib.hid (HS.out _ (List.mem_of_getElem? hx))
        have SX' := Lib.hid (HS'.out _ (List.mem_of_getElem? hx'))
        have hdl : ds.length = 16 := SX.out.ln
        have hdl' : ds'.length = 16 := SX'.out.ln
        rw [hdl] at hc
        rw [hdl'] at hc'
        have hvl := Lib.hid (hv.len.trans hdl)
        have hvl' := Lib.hid (hv'.len.trans hdl')
        have hvo := Lib.hid hv.one
        have hvo' := Lib.hid hv'.one
        have HV := Lib.hid hv
        have HV' := Lib.hid hv'
        clear hdl hdl' hv hv'
        clear hx hx'
        go_wp2_with fail
        refine wp_region_held (S := fun W => Below wr.heap.size wr W) (by kernel_rfl) ?_
        generalize hwn : ({ wr with drawn := wr.drawn + 1 } : World) = wn
        have BN : Below wr.heap.size wr wn := by rw [← hwn]; exact ⟨rfl, rfl, rfl, Nat.le_refl _, fun _ _ => rfl⟩
        clear hwn
        have C0 := Lib.hid (show ∀ W, Below wr.heap.size wr W → ∀ j v, vs[j]? = some v → W.cell? ⟨b, o + k * 16 + j, none⟩ = some v from fun W BW j v hv => (BW.cell (p := ⟨b, o + k * 16 + j, none⟩) hbw).trans ((B0.cell (p := ⟨b, o + k * 16 + j, none⟩) hbl).trans (hc j v hv)))
        have C1 := Lib.hid (show ∀ W, Below wr.heap.size wr W → ∀ j v, vs'[j]? = some v → W.cell? ⟨b', o' + k * 16 + j, none⟩ = some v from fun W BW j v hv => (BW.cell (p := ⟨b', o' + k * 16 + j, none⟩) hbw').trans ((B0.cell (p := ⟨b', o' + k * 16 + j, none⟩) hbl').trans (hc' j v hv)))
        clear hc hc'
        refine wpAnyH_take (i := 0) (oi := { dst := some 19, op := Op.move (Operand.tmp 0), type := 33, pos := "ref.go:290", after := #[], guard := none }) (v := ?v0) rfl (by kernel_rfl) (by kernel_rfl) (by kernel_rfl) (fun _ _ _ h => h) (Or.inl ⟨by rfl, ?hy0⟩) BN ?rest0
        case hy0 => (intro W hSW; go_simp; try with_reducible rfl)
        simp only [Act.put, List.setIfInBounds_toArray, List.set_cons_zero, List.set_cons_succ]
        refine wpAnyH_take (i := 1) (oi := { dst := some 20, op := Op.move (Operand.tmp 5), type := 3, pos := "ref.go:290", after := #[], guard := none }) (v := ?v1) rfl (by kernel_rfl) (by kernel_rfl) (by kernel_rfl) (fun _ _ _ h => h) (Or.inl ⟨by rfl, ?hy1⟩) BN ?rest1
        case hy1 => (intro W hSW; go_simp; try with_reducible rfl)
        simp only [Act.put, List.setIfInBounds_toArray, List.set_cons_zero, List.set_cons_succ]
        refine wpAnyH_take (i := 2) (oi := { dst := some 21, op := Op.indexAddr 33 (Operand.tmp 19) (Operand.tmp 20), type := 0, pos := "ref.go:290", after := #[{ on := 0, ground := Ground.data }, { on := 1, ground := Ground.data }], guard := none }) (v := ?v2) rfl (by kernel_rfl) (by kernel_rfl) (by kernel_rfl) (fun _ _ _ h => h) (Or.inl ⟨by rfl, ?hy2⟩) BN ?rest2
        case hy2 => (intro W hSW; go_simp; try with_reducible rfl)
        simp only [Act.put, List.setIfInBounds_toArray, List.set_cons_zero, List.set_cons_succ]
        refine wpAnyH_take (i := 3) (oi := { dst := some 22, op := Op.load 84 (Operand.tmp 21), type := 84, pos := "ref.go:290", after := #[{ on := 2, ground := Ground.data }], guard := none }) (v := ?v3) rfl (by kernel_rfl) (by kernel_rfl) (by kernel_rfl) (fun _ _ _ h => h) (Or.inl ⟨by rfl, ?hy3⟩) BN ?rest3
        case hy3 => (intro W hSW; refine run_loadT Tryz.isAgg84 Tryz.sizeOf84 (x := .tmp 21) ?_ (b := b) (off := o + k * 16) ?_ hvl.out (C0.out W hSW) <;> rfl)
        simp only [Act.put, List.setIfInBounds_toArray, List.set_cons_zero, List.set_cons_succ]
        refine wpAnyH_take (i := 4) (oi := { dst := some 23, op := Op.move (Operand.tmp 1), type := 33, pos := "ref.go:290", after := #[{ on := 10, ground := Ground.gcOnly Departure.lateStores }], guard := none }) (v := ?v4) rfl (by kernel_rfl) (by kernel_rfl) (by kernel_rfl) (fun _ _ _ h => h) (Or.inl ⟨by rfl, ?hy4⟩) BN ?rest4
        case hy4 => (intro W hSW; go_simp; try with_reducible rfl)
        simp only [Act.put, List.setIfInBounds_toArray, List.set_cons_zero, List.set_cons_succ]
        refine wpAnyH_take (i := 5) (oi := { dst := some 24, op := Op.move (Operand.tmp 5), type := 3, pos := "ref.go:290", after := #[{ on := 10, ground := Ground.gcOnly Departure.lateStores }], guard := none }) (v := ?v5) rfl (by kernel_rfl) (by kernel_rfl) (by kernel_rfl) (fun _ _ _ h => h) (Or.inl ⟨by rfl, ?hy5⟩) BN ?rest5
        case hy5 => (intro W hSW; go_simp; try with_reducible rfl)
        simp only [Act.put, List.setIfInBounds_toArray, List.set_cons_zero, List.set_cons_succ]
        refine wpAnyH_take (i := 6) (oi := { dst := some 25, op := Op.indexAddr 33 (Operand.tmp 23) (Operand.tmp 24), type := 0, pos := "ref.go:290", after := #[{ on := 4, ground := Ground.data }, { on := 5, ground := Ground.data }, { on := 10, ground := Ground.gcOnly Departure.lateStores }], guard := none }) (v := ?v6) rfl (by kernel_rfl) (by kernel_rfl) (by kernel_rfl) (fun _ _ _ h => h) (Or.inl ⟨by rfl, ?hy6⟩) BN ?rest6
        case hy6 => (intro W hSW; go_simp; try with_reducible rfl)
        simp only [Act.put, List.setIfInBounds_toArray, List.set_cons_zero, List.set_cons_succ]
        refine wpAnyH_take (i := 7) (oi := { dst := some 26, op := Op.load 84 (Operand.tmp 25), type := 84, pos := "ref.go:290", after := #[{ on := 6, ground := Ground.data }, { on := 10, ground := Ground.gcOnly Departure.lateStores }], guard := none }) (v := ?v7) rfl (by kernel_rfl) (by kernel_rfl) (by kernel_rfl) (fun _ _ _ h => h) (Or.inl ⟨by rfl, ?hy7⟩) BN ?rest7
        case hy7 => (intro W hSW; refine run_loadT Tryz.isAgg84 Tryz.sizeOf84 (x := .tmp 25) ?_ (b := b') (off := o' + k * 16) ?_ hvl'.out (C1.out W hSW) <;> rfl)
        simp only [Act.put, List.setIfInBounds_toArray, List.set_cons_zero, List.set_cons_succ]
        have HBN := Lib.hid BN
        refine pair_tail (T := 84) (k := 16) (l0 := 22) (l1 := 26) (i8 := 8) (i9 := 9) (i10 := 10) (i11 := 11) (vs := vs) (vs' := vs') ⟨rfl, rfl, rfl, rfl, rfl, rfl, rfl, rfl, rfl, rfl, rfl, rfl, rfl, rfl, rfl, rfl, by kernel_rfl, by kernel_rfl, by kernel_rfl, by kernel_rfl, by kernel_rfl, by kernel_rfl, by kernel_rfl, by kernel_rfl, by kernel_rfl⟩ Tryz.zeroValue84 Tryz.sizeOf84 rfl (by simp) (by simp) ⟨by decide, by decide⟩ ⟨by decide, by decide⟩ rfl rfl hvl.out hvl'.out hvo.out hvo'.out (fun W h => BN.trans (h.mono BN.size)) (fun p p' wb hp hp' kp kp' bb => ?_) 0
        obtain ⟨m0, m1, op, nm, pop, pn, pnm, pfd, pl, ex, dn, mo, bd, el, en, e2, m0a, m0c, m1a, m1c, pla, plc, exa, exc, bda, bdc, ela, elc, ena, enc, e2a, e2c, hds, hvs, am0, am1, iop, inm, ipop, ipn, ipnm, ipfd, apl, aex, abd, ael, aen, ae2, sm0, sm1, spl, sex, sbd, sel, sen, se2⟩ := HV.out.openS SX.out
        rw [hvs] at kp
        have HDS := Lib.hid hds
        clear hds hvs
        obtain ⟨m0', m1', op', nm', pop', pn', pnm', pfd', pl', ex', dn', mo', bd', el', en', e2', m0a', m0c', m1a', m1c', pla', plc', exa', exc', bda', bdc', ela', elc', ena', enc', e2a', e2c', hds', hvs', am0', am1', iop', inm', ipop', ipn', ipnm', ipfd', apl', aex', abd', ael', aen', ae2', sm0', sm1', spl', sex', sbd', sel', sen', se2'⟩ := HV'.out.openS SX'.out
        rw [hvs'] at kp'
        have HDS' := Lib.hid hds'
        clear hds' hvs'
        have R0 := Lib.hid (HB.out.trans (((HBN.out.trans (bb.mono HBN.out.size))).mono HB.out.size))
        have KA0 := Lib.hid kp
        have KB0 := Lib.hid kp'
        have cA0 := box_cells kp
        have cB0 := box_cells kp'
        clear bb kp kp'
        have Am0 := Lib.hid am0
        have Am0' := Lib.hid am0'
        have Am1 := Lib.hid am1
        have Am1' := Lib.hid am1'
        have Apl := Lib.hid apl
        have Apl' := Lib.hid apl'
        have Aex := Lib.hid aex
        have Aex' := Lib.hid aex'
        have Abd := Lib.hid abd
        have Abd' := Lib.hid abd'
        have Ael := Lib.hid ael
        have Ael' := Lib.hid ael'
        have Aen := Lib.hid aen
        have Aen' := Lib.hid aen'
        have Ae2 := Lib.hid ae2
        have Ae2' := Lib.hid ae2'
        have Pex := Lib.hid (refExprs_any w0 ex ex' sex sex')
        have Pen := Lib.hid (texts_rows w0 en en' sen sen')
        have Pe2 := Lib.hid (texts_rows w0 e2 e2' se2 se2')
        have Pbd := Lib.hid (HF.out bd bd' ⟨ds, List.mem_of_getElem? HX.out, by rw [HDS.out]; simp⟩ sbd sbd')
        have Pel := Lib.hid (HF.out el el' ⟨ds, List.mem_of_getElem? HX.out, by rw [HDS.out]; simp⟩ sel sel')
        have PM := Lib.hid (fun W hW => refMarks_any w0 _ _ _ _ _ _ _ _ m0 m1 m0' m1' am0 am1 am0' am1' sm0 sm1 sm0' sm1' W hW)
        have xpl : AllAt w0 [.int .i64 pop, .int .i64 pn, .string pnm, .string pfd, .slice pla pl.length plc] [.int pop, .int pn, .str pnm, .str pfd, .row pl] := ⟨.int _ ipop.1 ipop.2, .int _ ipn.1 ipn.2, .str _ ipnm, .str _ ipfd, apl, trivial⟩
        have xpl' : AllAt w0 [.int .i64 pop', .int .i64 pn', .string pnm', .string pfd', .slice pla' pl'.length plc'] [.int pop', .int pn', .str pnm', .str pfd', .row pl'] := ⟨.int _ ipop'.1 ipop'.2, .int _ ipn'.1 ipn'.2, .str _ ipnm', .str _ ipfd', apl', trivial⟩
        have PPE := Lib.hid (fun W hW => refExpr_any w0 _ _ (.mk _ _ _ _ _ spl) (.mk _ _ _ _ _ spl') _ _ xpl xpl' W hW)
        clear xpl xpl'
        clear am0 am1 iop inm ipop ipn ipnm ipfd apl aex abd ael aen ae2 sm0 sm1 spl sex sbd sel sen se2 am0' am1' iop' inm' ipop' ipn' ipnm' ipfd' apl' aex' abd' ael' aen' ae2' sm0' sm1' spl' sex' sbd' sel' sen' se2'
        go_wp2_with fail
        have Z1 := HW.out.trans (R0.out.mono HW.out.size)
        refine (PM.out _ Z1).mono ?_
        rintro e w1 ⟨rfl, b1⟩
        have R1 := Lib.hid (R0.out.trans (b1.mono R0.out.size))
        have KA1 := Lib.hid ((b1.block _ (heap_lt KA0.out)).trans KA0.out)
        have KB1 := Lib.hid ((b1.block _ (heap_lt KB0.out)).trans KB0.out)
        have cA1 := box_cells KA1.out
        have cB1 := box_cells KB1.out
        clear b1 Z1 cA0 cB0
        cases hM : same (α := List D) [.row m0, .row m1] [.row m0', .row m1'] with
        | false =>
          have GH := Lib.hid (same_neq hM)
          clear hM
          have HE := Lib.hid (same_miss HX.out HX'.out (by rw [HDS.out, HDS'.out]; exact same_no (α := List D) (x := [.row m0, .row m1, .int op, .str nm, .int pop, .int pn, .str pnm, .str pfd, .row pl, .row ex, .bool dn, .bool mo, .row bd, .row el, .row en, .row e2]) (y := [.row m0', .row m1', .int op', .str nm', .int pop', .int pn', .str pnm', .str pfd', .row pl', .row ex', .bool dn', .bool mo', .row bd', .row el', .row en', .row e2']) (fun z => GH.out (congrArg (fun z : List D => (z.drop 0).take 2) z))))
          go_wp2_with fail
          go_ret
          exact ⟨by rw [HE.out]; rfl, R1.out⟩
        | true =>
          have QM := Lib.hid ((same_iff _ _).1 hM)
          clear hM
          cases hop : op == op' with
          | false =>
            have hnop : (op != op') = true := by rw [bne, hop]; rfl
            have GH := Lib.hid (show op ≠ op' from (by simpa using hop))
            have HE := Lib.hid (same_miss HX.out HX'.out (by rw [HDS.out, HDS'.out]; exact same_no (α := List D) (x := [.row m0, .row m1, .int op, .str nm, .int pop, .int pn, .str pnm, .str pfd, .row pl, .row ex, .bool dn, .bool mo, .row bd, .row el, .row en, .row e2]) (y := [.row m0', .row m1', .int op', .str nm', .int pop', .int pn', .str pnm', .str pfd', .row pl', .row ex', .bool dn', .bool mo', .row bd', .row el', .row en', .row e2']) (fun z => GH.out (D.int.inj (congrArg (fun z : List D => nth z 2) z)))))
            go_wp2_with fail
            go_ret
            exact ⟨by rw [HE.out]; rfl, R1.out⟩
          | true =>
            have hnop : (op != op') = false := by rw [bne, hop]; rfl
            have Qop := Lib.hid (show op = op' from (by simpa using hop))
            cases hnm : nm.toList == nm'.toList with
            | false =>
              have hnnm : (nm.toList != nm'.toList) = true := by rw [bne, hnm]; rfl
              have GH := Lib.hid (show nm ≠ nm' from (fun z => by subst z; simp at hnm))
              have HE := Lib.hid (same_miss HX.out HX'.out (by rw [HDS.out, HDS'.out]; exact same_no (α := List D) (x := [.row m0, .row m1, .int op, .str nm, .int pop, .int pn, .str pnm, .str pfd, .row pl, .row ex, .bool dn, .bool mo, .row bd, .row el, .row en, .row e2]) (y := [.row m0', .row m1', .int op', .str nm', .int pop', .int pn', .str pnm', .str pfd', .row pl', .row ex', .bool dn', .bool mo', .row bd', .row el', .row en', .row e2']) (fun z => GH.out (D.str.inj (congrArg (fun z : List D => nth z 3) z)))))
              go_wp2_with fail
              go_ret
              exact ⟨by rw [HE.out]; rfl, R1.out⟩
            | true =>
              have hnnm : (nm.toList != nm'.toList) = false := by rw [bne, hnm]; rfl
              have Qnm := Lib.hid (show nm = nm' from ((ba_eq_iff _ _).1 hnm))
              cases hdn : dn == dn' with
              | false =>
                have hndn : (dn != dn') = true := by rw [bne, hdn]; rfl
                have GH := Lib.hid (show dn ≠ dn' from (by simpa using hdn))
                have HE := Lib.hid (same_miss HX.out HX'.out (by rw [HDS.out, HDS'.out]; exact same_no (α := List D) (x := [.row m0, .row m1, .int op, .str nm, .int pop, .int pn, .str pnm, .str pfd, .row pl, .row ex, .bool dn, .bool mo, .row bd, .row el, .row en, .row e2]) (y := [.row m0', .row m1', .int op', .str nm', .int pop', .int pn', .str pnm', .str pfd', .row pl', .row ex', .bool dn', .bool mo', .row bd', .row el', .row en', .row e2']) (fun z => GH.out (D.bool.inj (congrArg (fun z : List D => nth z 10) z)))))
                go_wp2_with fail
                go_ret
                exact ⟨by rw [HE.out]; rfl, R1.out⟩
              | true =>
                have hndn : (dn != dn') = false := by rw [bne, hdn]; rfl
                have Qdn := Lib.hid (show dn = dn' from (by simpa using hdn))
                cases hmo : mo == mo' with
                | false =>
                  have hnmo : (mo != mo') = true := by rw [bne, hmo]; rfl
                  have GH := Lib.hid (show mo ≠ mo' from (by simpa using hmo))
                  have HE := Lib.hid (same_miss HX.out HX'.out (by rw [HDS.out, HDS'.out]; exact same_no (α := List D) (x := [.row m0, .row m1, .int op, .str nm, .int pop, .int pn, .str pnm, .str pfd, .row pl, .row ex, .bool dn, .bool mo, .row bd, .row el, .row en, .row e2]) (y := [.row m0', .row m1', .int op', .str nm', .int pop', .int pn', .str pnm', .str pfd', .row pl', .row ex', .bool dn', .bool mo', .row bd', .row el', .row en', .row e2']) (fun z => GH.out (D.bool.inj (congrArg (fun z : List D => nth z 11) z)))))
                  go_wp2_with fail
                  go_ret
                  exact ⟨by rw [HE.out]; rfl, R1.out⟩
                | true =>
                  have hnmo : (mo != mo') = false := by rw [bne, hmo]; rfl
                  have Qmo := Lib.hid (show mo = mo' from (by simpa using hmo))
                  go_wp2_with fail
                  have Z2 := HW.out.trans (R1.out.mono HW.out.size)
                  refine (PPE.out _ Z2).mono ?_
                  rintro e w2 ⟨rfl, b2⟩
                  have R2 := Lib.hid (R1.out.trans (b2.mono R1.out.size))
                  have KA2 := Lib.hid ((b2.block _ (heap_lt KA1.out)).trans KA1.out)
                  have KB2 := Lib.hid ((b2.block _ (heap_lt KB1.out)).trans KB1.out)
                  have cA2 := box_cells KA2.out
                  have cB2 := box_cells KB2.out
                  clear b2 Z2 cA1 cB1
                  cases hPE : same (α := List D) [.int pop, .int pn, .str pnm, .str pfd, .row pl] [.int pop', .int pn', .str pnm', .str pfd', .row pl'] with
                  | false =>
                    have GH := Lib.hid (same_neq hPE)
                    clear hPE
                    have HE := Lib.hid (same_miss HX.out HX'.out (by rw [HDS.out, HDS'.out]; exact same_no (α := List D) (x := [.row m0, .row m1, .int op, .str nm, .int pop, .int pn, .str pnm, .str pfd, .row pl, .row ex, .bool dn, .bool mo, .row bd, .row el, .row en, .row e2]) (y := [.row m0', .row m1', .int op', .str nm', .int pop', .int pn', .str pnm', .str pfd', .row pl', .row ex', .bool dn', .bool mo', .row bd', .row el', .row en', .row e2']) (fun z => GH.out (congrArg (fun z : List D => (z.drop 4).take 5) z))))
                    go_wp2_with fail
                    go_ret
                    exact ⟨by rw [HE.out]; rfl, R2.out⟩
                  | true =>
                    have QPE := Lib.hid ((same_iff _ _).1 hPE)
                    clear hPE
                    go_wp2_with fail
                    have Z3 := HW.out.trans (R2.out.mono HW.out.size)
                    refine (Pex.out _ _ _ _ _ _ Aex.out Aex'.out _ Z3).mono ?_
                    rintro e w3 ⟨rfl, b3⟩
                    have R3 := Lib.hid (R2.out.trans (b3.mono R2.out.size))
                    have KA3 := Lib.hid ((b3.block _ (heap_lt KA2.out)).trans KA2.out)
                    have KB3 := Lib.hid ((b3.block _ (heap_lt KB2.out)).trans KB2.out)
                    have cA3 := box_cells KA3.out
                    have cB3 := box_cells KB3.out
                    clear b3 Z3 cA2 cB2
                    cases hex : same ex ex' with
                    | false =>
                      have GH := Lib.hid (same_neq hex)
                      clear hex
                      have HE := Lib.hid (same_miss HX.out HX'.out (by rw [HDS.out, HDS'.out]; exact same_no (α := List D) (x := [.row m0, .row m1, .int op, .str nm, .int pop, .int pn, .str pnm, .str pfd, .row pl, .row ex, .bool dn, .bool mo, .row bd, .row el, .row en, .row e2]) (y := [.row m0', .row m1', .int op', .str nm', .int pop', .int pn', .str pnm', .str pfd', .row pl', .row ex', .bool dn', .bool mo', .row bd', .row el', .row en', .row e2']) (fun z => GH.out (D.row.inj (congrArg (fun z : List D => nth z 9) z)))))
                      go_wp2_with fail
                      go_ret
                      exact ⟨by rw [HE.out]; rfl, R3.out⟩
                    | true =>
                      have Qex := Lib.hid ((same_iff _ _).1 hex)
                      clear hex
                      go_wp2_with fail
                      have Z4 := HW.out.trans (R3.out.mono HW.out.size)
                      refine (Pen.out _ _ _ _ _ _ Aen.out Aen'.out _ Z4).mono ?_
                      rintro e w4 ⟨rfl, b4⟩
                      have R4 := Lib.hid (R3.out.trans (b4.mono R3.out.size))
                      have KA4 := Lib.hid ((b4.block _ (heap_lt KA3.out)).trans KA3.out)
                      have KB4 := Lib.hid ((b4.block _ (heap_lt KB3.out)).trans KB3.out)
                      have cA4 := box_cells KA4.out
                      have cB4 := box_cells KB4.out
                      clear b4 Z4 cA3 cB3
                      cases hen : same en en' with
                      | false =>
                        have GH := Lib.hid (same_neq hen)
                        clear hen
                        have HE := Lib.hid (same_miss HX.out HX'.out (by rw [HDS.out, HDS'.out]; exact same_no (α := List D) (x := [.row m0, .row m1, .int op, .str nm, .int pop, .int pn, .str pnm, .str pfd, .row pl, .row ex, .bool dn, .bool mo, .row bd, .row el, .row en, .row e2]) (y := [.row m0', .row m1', .int op', .str nm', .int pop', .int pn', .str pnm', .str pfd', .row pl', .row ex', .bool dn', .bool mo', .row bd', .row el', .row en', .row e2']) (fun z => GH.out (D.row.inj (congrArg (fun z : List D => nth z 14) z)))))
                        go_wp2_with fail
                        go_ret
                        exact ⟨by rw [HE.out]; rfl, R4.out⟩
                      | true =>
                        have Qen := Lib.hid ((same_iff _ _).1 hen)
                        clear hen
                        go_wp2_with fail
                        have Z5 := HW.out.trans (R4.out.mono HW.out.size)
                        refine (Pe2.out _ _ _ _ _ _ Ae2.out Ae2'.out _ Z5).mono ?_
                        rintro e w5 ⟨rfl, b5⟩
                        have R5 := Lib.hid (R4.out.trans (b5.mono R4.out.size))
                        have KA5 := Lib.hid ((b5.block _ (heap_lt KA4.out)).trans KA4.out)
                        have KB5 := Lib.hid ((b5.block _ (heap_lt KB4.out)).trans KB4.out)
                        have cA5 := box_cells KA5.out
                        have cB5 := box_cells KB5.out
                        clear b5 Z5 cA4 cB4
                        cases he2 : same e2 e2' with
                        | false =>
                          have GH := Lib.hid (same_neq he2)
                          clear he2
                          have HE := Lib.hid (same_miss HX.out HX'.out (by rw [HDS.out, HDS'.out]; exact same_no (α := List D) (x := [.row m0, .row m1, .int op, .str nm, .int pop, .int pn, .str pnm, .str pfd, .row pl, .row ex, .bool dn, .bool mo, .row bd, .row el, .row en, .row e2]) (y := [.row m0', .row m1', .int op', .str nm', .int pop', .int pn', .str pnm', .str pfd', .row pl', .row ex', .bool dn', .bool mo', .row bd', .row el', .row en', .row e2']) (fun z => GH.out (D.row.inj (congrArg (fun z : List D => nth z 15) z)))))
                          go_wp2_with fail
                          go_ret
                          exact ⟨by rw [HE.out]; rfl, R5.out⟩
                        | true =>
                          have Qe2 := Lib.hid ((same_iff _ _).1 he2)
                          clear he2
                          go_wp2_with fail
                          have Z6 := HW.out.trans (R5.out.mono HW.out.size)
                          refine (Pbd.out _ _ _ _ _ _ Abd.out Abd'.out _ Z6).mono ?_
                          rintro e w6 ⟨rfl, b6⟩
                          have R6 := Lib.hid (R5.out.trans (b6.mono R5.out.size))
                          have KA6 := Lib.hid ((b6.block _ (heap_lt KA5.out)).trans KA5.out)
                          have KB6 := Lib.hid ((b6.block _ (heap_lt KB5.out)).trans KB5.out)
                          have cA6 := box_cells KA6.out
                          have cB6 := box_cells KB6.out
                          clear b6 Z6 cA5 cB5
                          cases hbd : same bd bd' with
                          | false =>
                            have GH := Lib.hid (same_neq hbd)
                            clear hbd
                            have HE := Lib.hid (same_miss HX.out HX'.out (by rw [HDS.out, HDS'.out]; exact same_no (α := List D) (x := [.row m0, .row m1, .int op, .str nm, .int pop, .int pn, .str pnm, .str pfd, .row pl, .row ex, .bool dn, .bool mo, .row bd, .row el, .row en, .row e2]) (y := [.row m0', .row m1', .int op', .str nm', .int pop', .int pn', .str pnm', .str pfd', .row pl', .row ex', .bool dn', .bool mo', .row bd', .row el', .row en', .row e2']) (fun z => GH.out (D.row.inj (congrArg (fun z : List D => nth z 12) z)))))
                            go_wp2_with fail
                            go_ret
                            exact ⟨by rw [HE.out]; rfl, R6.out⟩
                          | true =>
                            have Qbd := Lib.hid ((same_iff _ _).1 hbd)
                            clear hbd
                            go_wp2_with fail
                            have Z7 := HW.out.trans (R6.out.mono HW.out.size)
                            refine (Pel.out _ _ _ _ _ _ Ael.out Ael'.out _ Z7).mono ?_
                            rintro e w7 ⟨rfl, b7⟩
                            have R7 := Lib.hid (R6.out.trans (b7.mono R6.out.size))
                            have KA7 := Lib.hid ((b7.block _ (heap_lt KA6.out)).trans KA6.out)
                            have KB7 := Lib.hid ((b7.block _ (heap_lt KB6.out)).trans KB6.out)
                            have cA7 := box_cells KA7.out
                            have cB7 := box_cells KB7.out
                            clear b7 Z7 cA6 cB6
                            cases hel : same el el' with
                            | false =>
                              have GH := Lib.hid (same_neq hel)
                              clear hel
                              have HE := Lib.hid (same_miss HX.out HX'.out (by rw [HDS.out, HDS'.out]; exact same_no (α := List D) (x := [.row m0, .row m1, .int op, .str nm, .int pop, .int pn, .str pnm, .str pfd, .row pl, .row ex, .bool dn, .bool mo, .row bd, .row el, .row en, .row e2]) (y := [.row m0', .row m1', .int op', .str nm', .int pop', .int pn', .str pnm', .str pfd', .row pl', .row ex', .bool dn', .bool mo', .row bd', .row el', .row en', .row e2']) (fun z => GH.out (D.row.inj (congrArg (fun z : List D => nth z 13) z)))))
                              go_wp2_with fail
                              go_ret
                              exact ⟨by rw [HE.out]; rfl, R7.out⟩
                            | true =>
                              have Qel := Lib.hid ((same_iff _ _).1 hel)
                              clear hel
                              have HE := Lib.hid (show ds = ds' by
                                rw [HDS.out, HDS'.out]
                                obtain ⟨rfl, rfl⟩ : m0 = m0' ∧ m1 = m1' := by simpa using QM.out
                                obtain rfl := Qop.out
                                obtain rfl := Qnm.out
                                obtain rfl := Qdn.out
                                obtain rfl := Qmo.out
                                obtain ⟨rfl, rfl, rfl, rfl, rfl⟩ : pop = pop' ∧ pn = pn' ∧ pnm = pnm' ∧ pfd = pfd' ∧ pl = pl' := by simpa using QPE.out
                                obtain rfl := Qex.out
                                obtain rfl := Qen.out
                                obtain rfl := Qe2.out
                                obtain rfl := Qbd.out
                                obtain rfl := Qel.out
                                rfl)
                              go_wp2_with fail
                              go_roundw
                              case rel => exact ⟨k + 1, by omega, by go_num, take_same_succ HX.out (HE.out ▸ HX'.out) HT.out, R7.out⟩
                              case measure => simp [intOf]; omega
      · obtain rfl : k = len := by omega
        go_wp2_with fail
        go_ret
        exact ⟨by rw [same_end (HL.out.trans HL'.out.symm) (by rw [HL.out]; exact HT.out)]; rfl, HB.out⟩
  · have hne : (len == len') = false := by simpa using hn
    have HN := Lib.hid (same_len (l := l) (l' := l') (by rw [HL.out, HL'.out]; exact hn))
    go_enter Tryz.func47, Tryz.ntmps47
    go_wp2_with fail
    go_ret
    exact ⟨by rw [HN.out]; rfl, Below.refl _ _⟩
theorem refStmts_upto (w0 : World) (n : Nat) : ∀ l l' : List (List D), SizeOf.sizeOf l ≤ n → (∀ z ∈ l, ShS z) → (∀ z ∈ l', ShS z) → RowsEq w0 47 l l' := by
  induction n with
  | zero => intro l l' h; cases l <;> simp at h <;> omega
  | succ n ih =>
    intro l l' hn hs hs'
    refine refStmts_step w0 l l' hs hs' fun m m' hm hsm hsm' => ih m m' ?_ hsm hsm'
    obtain ⟨x, hx, hm⟩ := hm
    have h1 := List.sizeOf_lt_of_mem hx
    have h2 := List.sizeOf_lt_of_mem hm
    have h3 : SizeOf.sizeOf (D.row m) = 1 + SizeOf.sizeOf m := by simp
    omega
theorem refStmts_any (w0 : World) (l l' : List (List D)) (hs : ∀ z ∈ l, ShS z) (hs' : ∀ z ∈ l', ShS z) : RowsEq w0 47 l l' := refStmts_upto w0 _ l l' (Nat.le_refl _) hs hs'
end Go.Proofs.YtciijpahjjoppaaGreat
