/-
  Texts of this proof, put together.
-/
import Derived.Test.YtciijpahjjoppaaGreatPb10
import Derived.Test.YtciijpahjjoppaaGreatPb1
section
namespace Go.Proofs.YtciijpahjjoppaaGreat
open Go.RowKit Go.Deep Go.Sort
set_option maxRecDepth 100000 in
set_option maxHeartbeats 4000000 in
theorem refStmts_step (w0 : World) (l l' : List (List D)) (hs : ∀ x ∈ l, ShS x) (hs' : ∀ x ∈ l', ShS x) (hf : ∀ m m', (∃ x ∈ l, D.row m ∈ x) → (∀ z ∈ m, ShS z) → (∀ z ∈ m', ShS z) → RowsEq w0 47 m m') : RowsEq w0 47 l l' := by
  intro a a' len len' cap cap' hA hA' W hW
  have HF := Lib.hid hf
  have HA := Lib.hid hA
  have HA' := Lib.hid hA'
  have HS := Lib.hid hs
  have HS' := Lib.hid hs'
  have HW := Lib.hid hW
  have hle := hA.len_le
  have hle' := hA'.len_le
  have HL := Lib.hid hA.len_eq.1
  have HL' := Lib.hid hA'.len_eq.1
  clear hA hA' hs hs' hW hf
  by_cases hn : len = len'
  · subst hn
    go_enter Tryz.func47, Tryz.ntmps47
    go_wp2_with fail
    go_loopw [5] (fun i wr => ∃ k : Nat, k ≤ len ∧ i = .int .i64 k ∧ l.take k = l'.take k ∧ Below W.heap.size W wr) (fun i _ => len - (intOf i).toNat)
    case atStart => exact ⟨0, Nat.zero_le _, rfl, rfl, Below.refl _ _⟩
    case round =>
      obtain ⟨k, hk, rfl, ht, hb⟩ := hrel
      have HT := Lib.hid ht
      have HB := Lib.hid hb
      clear ht hb
      by_cases hlt : k < len
      · obtain ⟨b, o, vs, ds, rfl, hbl, hx, hv, hc⟩ := HA.out.elem hlt
        obtain ⟨b', o', vs', ds', rfl, hbl', hx', hv', hc'⟩ := HA'.out.elem hlt
        have B0 := HW.out.trans (HB.out.mono HW.out.size)
        have hbw : b < wr.heap.size := Nat.lt_of_lt_of_le hbl B0.size
        have hbw' : b' < wr.heap.size := Nat.lt_of_lt_of_le hbl' B0.size
        have HX := Lib.hid hx
        have HX' := Lib.hid hx'
        have SX := Lib.hid (HS.out _ (List.mem_of_getElem? hx))
        have SX' := Lib.hid (HS'.out _ (List.mem_of_getElem? hx'))
        have hdl : ds.length = 16 := SX.out.ln
        have hdl' : ds'.length = 16 := SX'.out.ln
        rw [hdl] at hc
        rw [hdl'] at hc'
        have hvl := Lib.hid (hv.len.trans hdl)
        have hvl' := Lib.hid (hv'.len.trans hdl')
        have hvo := Lib.hid hv.one
        have hvo' := Lib.hid hv'.one
        have HV := Lib.hid hv
        have HV' := Lib.hid hv'
        clear hdl hdl' hv hv'
        clear hx hx'
        go_wp2_with fail
        refine wp_region_held (S := fun W => Below wr.heap.size wr W) (by kernel_rfl) ?_
        generalize hwn : ({ wr with drawn := wr.drawn + 1 } : World) = wn
        have BN : Below wr.heap.size wr wn := by rw [← hwn]; exact ⟨rfl, rfl, rfl, Nat.le_refl _, fun _ _ => rfl⟩
        clear hwn
        have C0 := Lib.hid (show ∀ W, Below wr.heap.size wr W → ∀ j v, vs[j]? = some v → W.cell? ⟨b, o + k * 16 + j, none⟩ = some v from fun W BW j v hv => (BW.cell (p := ⟨b, o + k * 16 + j, none⟩) hbw).trans ((B0.cell (p := ⟨b, o + k * 16 + j, none⟩) hbl).trans (hc j v hv)))
        have C1 := Lib.hid (show ∀ W, Below wr.heap.size wr W → ∀ j v, vs'[j]? = some v → W.cell? ⟨b', o' + k * 16 + j, none⟩ = some v from fun W BW j v hv => (BW.cell (p := ⟨b', o' + k * 16 + j, none⟩) hbw').trans ((B0.cell (p := ⟨b', o' + k * 16 + j, none⟩) hbl').trans (hc' j v hv)))
        clear hc hc'
        refine wpAnyH_take (i := 0) (oi := ⟨some 19, .move (.tmp 0), 33, "ref.go:290", #[], none⟩) (v := ?v0) rfl (by kernel_rfl) (by kernel_rfl) (by kernel_rfl) (fun _ _ _ h => h) (Or.inl ⟨by rfl, ?hy0⟩) BN ?rest0
        case hy0 => (intro W hSW; go_simp; try with_reducible rfl)
        simp only [Act.put, List.setIfInBounds_toArray, List.set_cons_zero, List.set_cons_succ]
        refine wpAnyH_take (i := 1) (oi := ⟨some 20, .move (.tmp 5), 3, "ref.go:290", #[], none⟩) (v := ?v1) rfl (by kernel_rfl) (by kernel_rfl) (by kernel_rfl) (fun _ _ _ h => h) (Or.inl ⟨by rfl, ?hy1⟩) BN ?rest1
        case hy1 => (intro W hSW; go_simp; try with_reducible rfl)
        simp only [Act.put, List.setIfInBounds_toArray, List.set_cons_zero, List.set_cons_succ]
        refine wpAnyH_take (i := 2) (oi := ⟨some 21, .indexAddr 33 (.tmp 19) (.tmp 20), 0, "ref.go:290", #[⟨0, .data⟩, ⟨1, .data⟩], none⟩) (v := ?v2) rfl (by kernel_rfl) (by kernel_rfl) (by kernel_rfl) (fun _ _ _ h => h) (Or.inl ⟨by rfl, ?hy2⟩) BN ?rest2
        case hy2 => (intro W hSW; go_simp; try with_reducible rfl)
        simp only [Act.put, List.setIfInBounds_toArray, List.set_cons_zero, List.set_cons_succ]
        refine wpAnyH_take (i := 3) (oi := ⟨some 22, .load 84 (.tmp 21), 84, "ref.go:290", #[⟨2, .data⟩], none⟩) (v := ?v3) rfl (by kernel_rfl) (by kernel_rfl) (by kernel_rfl) (fun _ _ _ h => h) (Or.inl ⟨by rfl, ?hy3⟩) BN ?rest3
        case hy3 => (intro W hSW; refine run_loadT Tryz.isAgg84 Tryz.sizeOf84 (x := .tmp 21) ?_ (b := b) (off := o + k * 16) ?_ hvl.out (C0.out W hSW) <;> rfl)
        simp only [Act.put, List.setIfInBounds_toArray, List.set_cons_zero, List.set_cons_succ]
        refine wpAnyH_take (i := 4) (oi := ⟨some 23, .move (.tmp 1), 33, "ref.go:290", #[{ on := 10, ground := Ground.gcOnly Departure.lateStores }], none⟩) (v := ?v4) rfl (by kernel_rfl) (by kernel_rfl) (by kernel_rfl) (fun _ _ _ h => h) (Or.inl ⟨by rfl, ?hy4⟩) BN ?rest4
        case hy4 => (intro W hSW; go_simp; try with_reducible rfl)
        simp only [Act.put, List.setIfInBounds_toArray, List.set_cons_zero, List.set_cons_succ]
        refine wpAnyH_take (i := 5) (oi := ⟨some 24, .move (.tmp 5), 3, "ref.go:290", #[{ on := 10, ground := Ground.gcOnly Departure.lateStores }], none⟩) (v := ?v5) rfl (by kernel_rfl) (by kernel_rfl) (by kernel_rfl) (fun _ _ _ h => h) (Or.inl ⟨by rfl, ?hy5⟩) BN ?rest5
        case hy5 => (intro W hSW; go_simp; try with_reducible rfl)
        simp only [Act.put, List.setIfInBounds_toArray, List.set_cons_zero, List.set_cons_succ]
        refine wpAnyH_take (i := 6) (oi := ⟨some 25, .indexAddr 33 (.tmp 23) (.tmp 24), 0, "ref.go:290", #[⟨4, .data⟩, ⟨5, .data⟩, { on := 10, ground := Ground.gcOnly Departure.lateStores }], none⟩) (v := ?v6) rfl (by kernel_rfl) (by kernel_rfl) (by kernel_rfl) (fun _ _ _ h => h) (Or.inl ⟨by rfl, ?hy6⟩) BN ?rest6
        case hy6 => (intro W hSW; go_simp; try with_reducible rfl)
        simp only [Act.put, List.setIfInBounds_toArray, List.set_cons_zero, List.set_cons_succ]
        refine wpAnyH_take (i := 7) (oi := ⟨some 26, .load 84 (.tmp 25), 84, "ref.go:290", #[⟨6, .data⟩, { on := 10, ground := Ground.gcOnly Departure.lateStores }], none⟩) (v := ?v7) rfl (by kernel_rfl) (by kernel_rfl) (by kernel_rfl) (fun _ _ _ h => h) (Or.inl ⟨by rfl, ?hy7⟩) BN ?rest7
        case hy7 => (intro W hSW; refine run_loadT Tryz.isAgg84 Tryz.sizeOf84 (x := .tmp 25) ?_ (b := b') (off := o' + k * 16) ?_ hvl'.out (C1.out W hSW) <;> rfl)
        simp only [Act.put, List.setIfInBounds_toArray, List.set_cons_zero, List.set_cons_succ]
        have HBN := Lib.hid BN
        refine pair_tail (T := 84) (k := 16) (l0 := 22) (l1 := 26) (i8 := 8) (i9 := 9) (i10 := 10) (i11 := 11) (vs := vs) (vs' := vs') ⟨rfl, rfl, rfl, rfl, rfl, rfl, rfl, rfl, rfl, rfl, rfl, rfl, rfl, rfl, rfl, rfl, by kernel_rfl, by kernel_rfl, by kernel_rfl, by kernel_rfl, by kernel_rfl, by kernel_rfl, by kernel_rfl, by kernel_rfl, by kernel_rfl⟩ Tryz.zeroValue84 Tryz.sizeOf84 rfl (by simp) (by simp) ⟨by decide, by decide⟩ ⟨by decide, by decide⟩ rfl rfl hvl.out hvl'.out hvo.out hvo'.out (fun W h => BN.trans (h.mono BN.size)) (fun p p' wb hp hp' kp kp' bb => ?_) 0
        obtain ⟨m0, m1, op, nm, pop, pn, pnm, pfd, pl, ex, dn, mo, bd, el, en, e2, m0a, m0c, m1a, m1c, pla, plc, exa, exc, bda, bdc, ela, elc, ena, enc, e2a, e2c, hds, hvs, am0, am1, iop, inm, ipop, ipn, ipnm, ipfd, apl, aex, abd, ael, aen, ae2, sm0, sm1, spl, sex, sbd, sel, sen, se2⟩ := HV.out.openS SX.out
        rw [hvs] at kp
        have HDS := Lib.hid hds
        clear hds hvs
        obtain ⟨m0', m1', op', nm', pop', pn', pnm', pfd', pl', ex', dn', mo', bd', el', en', e2', m0a', m0c', m1a', m1c', pla', plc', exa', exc', bda', bdc', ela', elc', ena', enc', e2a', e2c', hds', hvs', am0', am1', iop', inm', ipop', ipn', ipnm', ipfd', apl', aex', abd', ael', aen', ae2', sm0', sm1', spl', sex', sbd', sel', sen', se2'⟩ := HV'.out.openS SX'.out
        rw [hvs'] at kp'
        have HDS' := Lib.hid hds'
        clear hds' hvs'
        have R0 := Lib.hid (HB.out.trans (((HBN.out.trans (bb.mono HBN.out.size))).mono HB.out.size))
        have KA0 := Lib.hid kp
        have KB0 := Lib.hid kp'
        have cA0 := box_cells kp
        have cB0 := box_cells kp'
        clear bb kp kp'
        have Am0 := Lib.hid am0
        have Am0' := Lib.hid am0'
        have Am1 := Lib.hid am1
        have Am1' := Lib.hid am1'
        have Apl := Lib.hid apl
        have Apl' := Lib.hid apl'
        have Aex := Lib.hid aex
        have Aex' := Lib.hid aex'
        have Abd := Lib.hid abd
        have Abd' := Lib.hid abd'
        have Ael := Lib.hid ael
        have Ael' := Lib.hid ael'
        have Aen := Lib.hid aen
        have Aen' := Lib.hid aen'
        have Ae2 := Lib.hid ae2
        have Ae2' := Lib.hid ae2'
        have Pex := Lib.hid (refExprs_any w0 ex ex' sex sex')
        have Pen := Lib.hid (texts_rows w0 en en' sen sen')
        have Pe2 := Lib.hid (texts_rows w0 e2 e2' se2 se2')
        have Pbd := Lib.hid (HF.out bd bd' ⟨ds, List.mem_of_getElem? HX.out, by rw [HDS.out]; simp⟩ sbd sbd')
        have Pel := Lib.hid (HF.out el el' ⟨ds, List.mem_of_getElem? HX.out, by rw [HDS.out]; simp⟩ sel sel')
        have PM := Lib.hid (fun W hW => refMarks_any w0 _ _ _ _ _ _ _ _ m0 m1 m0' m1' am0 am1 am0' am1' sm0 sm1 sm0' sm1' W hW)
        have xpl : AllAt w0 [.int .i64 pop, .int .i64 pn, .string pnm, .string pfd, .slice pla pl.length plc] [.int pop, .int pn, .str pnm, .str pfd, .row pl] := ⟨.int _ ipop.1 ipop.2, .int _ ipn.1 ipn.2, .str _ ipnm, .str _ ipfd, apl, trivial⟩
        have xpl' : AllAt w0 [.int .i64 pop', .int .i64 pn', .string pnm', .string pfd', .slice pla' pl'.length plc'] [.int pop', .int pn', .str pnm', .str pfd', .row pl'] := ⟨.int _ ipop'.1 ipop'.2, .int _ ipn'.1 ipn'.2, .str _ ipnm', .str _ ipfd', apl', trivial⟩
        have PPE := Lib.hid (fun W hW => refSameE_any w0 _ _ (.mk _ _ _ _ _ spl) (.mk _ _ _ _ _ spl') _ _ xpl xpl' W hW)
        clear xpl xpl'
        clear am0 am1 iop inm ipop ipn ipnm ipfd apl aex abd ael aen ae2 sm0 sm1 spl sex sbd sel sen se2 am0' am1' iop' inm' ipop' ipn' ipnm' ipfd' apl' aex' abd' ael' aen' ae2' sm0' sm1' spl' sex' sbd' sel' sen' se2'
        go_wp2_with fail
        have Z1 := HW.out.trans (R0.out.mono HW.out.size)
        refine (PM.out _ Z1).mono ?_
        rintro e w1 ⟨rfl, b1⟩
        have R1 := Lib.hid (R0.out.trans (b1.mono R0.out.size))
        have KA1 := Lib.hid ((b1.block _ (heap_lt KA0.out)).trans KA0.out)
        have KB1 := Lib.hid ((b1.block _ (heap_lt KB0.out)).trans KB0.out)
        have cA1 := box_cells KA1.out
        have cB1 := box_cells KB1.out
        clear b1 Z1 cA0 cB0
        cases hM : same (α := List D) [.row m0, .row m1] [.row m0', .row m1'] with
        | false =>
          have GH := Lib.hid (same_neq hM)
          clear hM
          have HE := Lib.hid (same_miss HX.out HX'.out (by rw [HDS.out, HDS'.out]; exact same_no (α := List D) (x := [.row m0, .row m1, .int op, .str nm, .int pop, .int pn, .str pnm, .str pfd, .row pl, .row ex, .bool dn, .bool mo, .row bd, .row el, .row en, .row e2]) (y := [.row m0', .row m1', .int op', .str nm', .int pop', .int pn', .str pnm', .str pfd', .row pl', .row ex', .bool dn', .bool mo', .row bd', .row el', .row en', .row e2']) (fun z => GH.out (congrArg (fun z : List D => (z.drop 0).take 2) z))))
          go_wp2_with fail
          go_ret
          exact ⟨by rw [HE.out]; rfl, R1.out⟩
        | true =>
          have QM := Lib.hid ((same_iff _ _).1 hM)
          clear hM
          cases hop : op == op' with
          | false =>
            have hnop : (op != op') = true := by rw [bne, hop]; rfl
            have GH := Lib.hid (show op ≠ op' from (by simpa using hop))
            have HE := Lib.hid (same_miss HX.out HX'.out (by rw [HDS.out, HDS'.out]; exact same_no (α := List D) (x := [.row m0, .row m1, .int op, .str nm, .int pop, .int pn, .str pnm, .str pfd, .row pl, .row ex, .bool dn, .bool mo, .row bd, .row el, .row en, .row e2]) (y := [.row m0', .row m1', .int op', .str nm', .int pop', .int pn', .str pnm', .str pfd', .row pl', .row ex', .bool dn', .bool mo', .row bd', .row el', .row en', .row e2']) (fun z => GH.out (D.int.inj (congrArg (fun z : List D => nth z 2) z)))))
            go_wp2_with fail
            go_ret
            exact ⟨by rw [HE.out]; rfl, R1.out⟩
          | true =>
            have hnop : (op != op') = false := by rw [bne, hop]; rfl
            have Qop := Lib.hid (show op = op' from (by simpa using hop))
            cases hnm : nm.toList == nm'.toList with
            | false =>
              have hnnm : (nm.toList != nm'.toList) = true := by rw [bne, hnm]; rfl
              have GH := Lib.hid (show nm ≠ nm' from (fun z => by subst z; simp at hnm))
              have HE := Lib.hid (same_miss HX.out HX'.out (by rw [HDS.out, HDS'.out]; exact same_no (α := List D) (x := [.row m0, .row m1, .int op, .str nm, .int pop, .int pn, .str pnm, .str pfd, .row pl, .row ex, .bool dn, .bool mo, .row bd, .row el, .row en, .row e2]) (y := [.row m0', .row m1', .int op', .str nm', .int pop', .int pn', .str pnm', .str pfd', .row pl', .row ex', .bool dn', .bool mo', .row bd', .row el', .row en', .row e2']) (fun z => GH.out (D.str.inj (congrArg (fun z : List D => nth z 3) z)))))
              go_wp2_with fail
              go_ret
              exact ⟨by rw [HE.out]; rfl, R1.out⟩
            | true =>
              have hnnm : (nm.toList != nm'.toList) = false := by rw [bne, hnm]; rfl
              have Qnm := Lib.hid (show nm = nm' from ((ba_eq_iff _ _).1 hnm))
              cases hdn : dn == dn' with
              | false =>
                have hndn : (dn != dn') = true := by rw [bne, hdn]; rfl
                have GH := Lib.hid (show dn ≠ dn' from (by simpa using hdn))
                have HE := Lib.hid (same_miss HX.out HX'.out (by rw [HDS.out, HDS'.out]; exact same_no (α := List D) (x := [.row m0, .row m1, .int op, .str nm, .int pop, .int pn, .str pnm, .str pfd, .row pl, .row ex, .bool dn, .bool mo, .row bd, .row el, .row en, .row e2]) (y := [.row m0', .row m1', .int op', .str nm', .int pop', .int pn', .str pnm', .str pfd', .row pl', .row ex', .bool dn', .bool mo', .row bd', .row el', .row en', .row e2']) (fun z => GH.out (D.bool.inj (congrArg (fun z : List D => nth z 10) z)))))
                go_wp2_with fail
                go_ret
                exact ⟨by rw [HE.out]; rfl, R1.out⟩
              | true =>
                have hndn : (dn != dn') = false := by rw [bne, hdn]; rfl
                have Qdn := Lib.hid (show dn = dn' from (by simpa using hdn))
                cases hmo : mo == mo' with
                | false =>
                  have hnmo : (mo != mo') = true := by rw [bne, hmo]; rfl
                  have GH := Lib.hid (show mo ≠ mo' from (by simpa using hmo))
                  have HE := Lib.hid (same_miss HX.out HX'.out (by rw [HDS.out, HDS'.out]; exact same_no (α := List D) (x := [.row m0, .row m1, .int op, .str nm, .int pop, .int pn, .str pnm, .str pfd, .row pl, .row ex, .bool dn, .bool mo, .row bd, .row el, .row en, .row e2]) (y := [.row m0', .row m1', .int op', .str nm', .int pop', .int pn', .str pnm', .str pfd', .row pl', .row ex', .bool dn', .bool mo', .row bd', .row el', .row en', .row e2']) (fun z => GH.out (D.bool.inj (congrArg (fun z : List D => nth z 11) z)))))
                  go_wp2_with fail
                  go_ret
                  exact ⟨by rw [HE.out]; rfl, R1.out⟩
                | true =>
                  have hnmo : (mo != mo') = false := by rw [bne, hmo]; rfl
                  have Qmo := Lib.hid (show mo = mo' from (by simpa using hmo))
                  go_wp2_with fail
                  have Z2 := HW.out.trans (R1.out.mono HW.out.size)
                  refine (PPE.out _ Z2).mono ?_
                  rintro e w2 ⟨rfl, b2⟩
                  have R2 := Lib.hid (R1.out.trans (b2.mono R1.out.size))
                  have KA2 := Lib.hid ((b2.block _ (heap_lt KA1.out)).trans KA1.out)
                  have KB2 := Lib.hid ((b2.block _ (heap_lt KB1.out)).trans KB1.out)
                  have cA2 := box_cells KA2.out
                  have cB2 := box_cells KB2.out
                  clear b2 Z2 cA1 cB1
                  cases hPE : same (α := List D) [.int pop, .int pn, .str pnm, .str pfd, .row pl] [.int pop', .int pn', .str pnm', .str pfd', .row pl'] with
                  | false =>
                    have GH := Lib.hid (same_neq hPE)
                    clear hPE
                    have HE := Lib.hid (same_miss HX.out HX'.out (by rw [HDS.out, HDS'.out]; exact same_no (α := List D) (x := [.row m0, .row m1, .int op, .str nm, .int pop, .int pn, .str pnm, .str pfd, .row pl, .row ex, .bool dn, .bool mo, .row bd, .row el, .row en, .row e2]) (y := [.row m0', .row m1', .int op', .str nm', .int pop', .int pn', .str pnm', .str pfd', .row pl', .row ex', .bool dn', .bool mo', .row bd', .row el', .row en', .row e2']) (fun z => GH.out (congrArg (fun z : List D => (z.drop 4).take 5) z))))
                    go_wp2_with fail
                    go_ret
                    exact ⟨by rw [HE.out]; rfl, R2.out⟩
                  | true =>
                    have QPE := Lib.hid ((same_iff _ _).1 hPE)
                    clear hPE
                    go_wp2_with fail
                    have Z3 := HW.out.trans (R2.out.mono HW.out.size)
                    refine (Pex.out _ _ _ _ _ _ Aex.out Aex'.out _ Z3).mono ?_
                    rintro e w3 ⟨rfl, b3⟩
                    have R3 := Lib.hid (R2.out.trans (b3.mono R2.out.size))
                    have KA3 := Lib.hid ((b3.block _ (heap_lt KA2.out)).trans KA2.out)
                    have KB3 := Lib.hid ((b3.block _ (heap_lt KB2.out)).trans KB2.out)
                    have cA3 := box_cells KA3.out
                    have cB3 := box_cells KB3.out
                    clear b3 Z3 cA2 cB2
                    cases hex : same ex ex' with
                    | false =>
                      have GH := Lib.hid (same_neq hex)
                      clear hex
                      have HE := Lib.hid (same_miss HX.out HX'.out (by rw [HDS.out, HDS'.out]; exact same_no (α := List D) (x := [.row m0, .row m1, .int op, .str nm, .int pop, .int pn, .str pnm, .str pfd, .row pl, .row ex, .bool dn, .bool mo, .row bd, .row el, .row en, .row e2]) (y := [.row m0', .row m1', .int op', .str nm', .int pop', .int pn', .str pnm', .str pfd', .row pl', .row ex', .bool dn', .bool mo', .row bd', .row el', .row en', .row e2']) (fun z => GH.out (D.row.inj (congrArg (fun z : List D => nth z 9) z)))))
                      go_wp2_with fail
                      go_ret
                      exact ⟨by rw [HE.out]; rfl, R3.out⟩
                    | true =>
                      have Qex := Lib.hid ((same_iff _ _).1 hex)
                      clear hex
                      go_wp2_with fail
                      have Z4 := HW.out.trans (R3.out.mono HW.out.size)
                      refine (Pen.out _ _ _ _ _ _ Aen.out Aen'.out _ Z4).mono ?_
                      rintro e w4 ⟨rfl, b4⟩
                      have R4 := Lib.hid (R3.out.trans (b4.mono R3.out.size))
                      have KA4 := Lib.hid ((b4.block _ (heap_lt KA3.out)).trans KA3.out)
                      have KB4 := Lib.hid ((b4.block _ (heap_lt KB3.out)).trans KB3.out)
                      have cA4 := box_cells KA4.out
                      have cB4 := box_cells KB4.out
                      clear b4 Z4 cA3 cB3
                      cases hen : same en en' with
                      | false =>
                        have GH := Lib.hid (same_neq hen)
                        clear hen
                        have HE := Lib.hid (same_miss HX.out HX'.out (by rw [HDS.out, HDS'.out]; exact same_no (α := List D) (x := [.row m0, .row m1, .int op, .str nm, .int pop, .int pn, .str pnm, .str pfd, .row pl, .row ex, .bool dn, .bool mo, .row bd, .row el, .row en, .row e2]) (y := [.row m0', .row m1', .int op', .str nm', .int pop', .int pn', .str pnm', .str pfd', .row pl', .row ex', .bool dn', .bool mo', .row bd', .row el', .row en', .row e2']) (fun z => GH.out (D.row.inj (congrArg (fun z : List D => nth z 14) z)))))
                        go_wp2_with fail
                        go_ret
                        exact ⟨by rw [HE.out]; rfl, R4.out⟩
                      | true =>
                        have Qen := Lib.hid ((same_iff _ _).1 hen)
                        clear hen
                        go_wp2_with fail
                        have Z5 := HW.out.trans (R4.out.mono HW.out.size)
                        refine (Pe2.out _ _ _ _ _ _ Ae2.out Ae2'.out _ Z5).mono ?_
                        rintro e w5 ⟨rfl, b5⟩
                        have R5 := Lib.hid (R4.out.trans (b5.mono R4.out.size))
                        have KA5 := Lib.hid ((b5.block _ (heap_lt KA4.out)).trans KA4.out)
                        have KB5 := Lib.hid ((b5.block _ (heap_lt KB4.out)).trans KB4.out)
                        have cA5 := box_cells KA5.out
                        have cB5 := box_cells KB5.out
                        clear b5 Z5 cA4 cB4
                        cases he2 : same e2 e2' with
                        | false =>
                          have GH := Lib.hid (same_neq he2)
                          clear he2
                          have HE := Lib.hid (same_miss HX.out HX'.out (by rw [HDS.out, HDS'.out]; exact same_no (α := List D) (x := [.row m0, .row m1, .int op, .str nm, .int pop, .int pn, .str pnm, .str pfd, .row pl, .row ex, .bool dn, .bool mo, .row bd, .row el, .row en, .row e2]) (y := [.row m0', .row m1', .int op', .str nm', .int pop', .int pn', .str pnm', .str pfd', .row pl', .row ex', .bool dn', .bool mo', .row bd', .row el', .row en', .row e2']) (fun z => GH.out (D.row.inj (congrArg (fun z : List D => nth z 15) z)))))
                          go_wp2_with fail
                          go_ret
                          exact ⟨by rw [HE.out]; rfl, R5.out⟩
                        | true =>
                          have Qe2 := Lib.hid ((same_iff _ _).1 he2)
                          clear he2
                          go_wp2_with fail
                          have Z6 := HW.out.trans (R5.out.mono HW.out.size)
                          refine (Pbd.out _ _ _ _ _ _ Abd.out Abd'.out _ Z6).mono ?_
                          rintro e w6 ⟨rfl, b6⟩
                          have R6 := Lib.hid (R5.out.trans (b6.mono R5.out.size))
                          have KA6 := Lib.hid ((b6.block _ (heap_lt KA5.out)).trans KA5.out)
                          have KB6 := Lib.hid ((b6.block _ (heap_lt KB5.out)).trans KB5.out)
                          have cA6 := box_cells KA6.out
                          have cB6 := box_cells KB6.out
                          clear b6 Z6 cA5 cB5
                          cases hbd : same bd bd' with
                          | false =>
                            have GH := Lib.hid (same_neq hbd)
                            clear hbd
                            have HE := Lib.hid (same_miss HX.out HX'.out (by rw [HDS.out, HDS'.out]; exact same_no (α := List D) (x := [.row m0, .row m1, .int op, .str nm, .int pop, .int pn, .str pnm, .str pfd, .row pl, .row ex, .bool dn, .bool mo, .row bd, .row el, .row en, .row e2]) (y := [.row m0', .row m1', .int op', .str nm', .int pop', .int pn', .str pnm', .str pfd', .row pl', .row ex', .bool dn', .bool mo', .row bd', .row el', .row en', .row e2']) (fun z => GH.out (D.row.inj (congrArg (fun z : List D => nth z 12) z)))))
                            go_wp2_with fail
                            go_ret
                            exact ⟨by rw [HE.out]; rfl, R6.out⟩
                          | true =>
                            have Qbd := Lib.hid ((same_iff _ _).1 hbd)
                            clear hbd
                            go_wp2_with fail
                            have Z7 := HW.out.trans (R6.out.mono HW.out.size)
                            refine (Pel.out _ _ _ _ _ _ Ael.out Ael'.out _ Z7).mono ?_
                            rintro e w7 ⟨rfl, b7⟩
                            have R7 := Lib.hid (R6.out.trans (b7.mono R6.out.size))
                            have KA7 := Lib.hid ((b7.block _ (heap_lt KA6.out)).trans KA6.out)
                            have KB7 := Lib.hid ((b7.block _ (heap_lt KB6.out)).trans KB6.out)
                            have cA7 := box_cells KA7.out
                            have cB7 := box_cells KB7.out
                            clear b7 Z7 cA6 cB6
                            cases hel : same el el' with
                            | false =>
                              have GH := Lib.hid (same_neq hel)
                              clear hel
                              have HE := Lib.hid (same_miss HX.out HX'.out (by rw [HDS.out, HDS'.out]; exact same_no (α := List D) (x := [.row m0, .row m1, .int op, .str nm, .int pop, .int pn, .str pnm, .str pfd, .row pl, .row ex, .bool dn, .bool mo, .row bd, .row el, .row en, .row e2]) (y := [.row m0', .row m1', .int op', .str nm', .int pop', .int pn', .str pnm', .str pfd', .row pl', .row ex', .bool dn', .bool mo', .row bd', .row el', .row en', .row e2']) (fun z => GH.out (D.row.inj (congrArg (fun z : List D => nth z 13) z)))))
                              go_wp2_with fail
                              go_ret
                              exact ⟨by rw [HE.out]; rfl, R7.out⟩
                            | true =>
                              have Qel := Lib.hid ((same_iff _ _).1 hel)
                              clear hel
                              have HE := Lib.hid (show ds = ds' by
                                rw [HDS.out, HDS'.out]
                                obtain ⟨rfl, rfl⟩ : m0 = m0' ∧ m1 = m1' := by simpa using QM.out
                                obtain rfl := Qop.out
                                obtain rfl := Qnm.out
                                obtain rfl := Qdn.out
                                obtain rfl := Qmo.out
                                obtain ⟨rfl, rfl, rfl, rfl, rfl⟩ : pop = pop' ∧ pn = pn' ∧ pnm = pnm' ∧ pfd = pfd' ∧ pl = pl' := by simpa using QPE.out
                                obtain rfl := Qex.out
                                obtain rfl := Qen.out
                                obtain rfl := Qe2.out
                                obtain rfl := Qbd.out
                                obtain rfl := Qel.out
                                rfl)
                              go_wp2_with fail
                              go_roundw
                              case rel => exact ⟨k + 1, by omega, by go_num, take_same_succ HX.out (HE.out ▸ HX'.out) HT.out, R7.out⟩
                              case measure => simp [intOf]; omega
      · obtain rfl : k = len := by omega
        go_wp2_with fail
        go_ret
        exact ⟨by rw [same_end (HL.out.trans HL'.out.symm) (by rw [HL.out]; exact HT.out)]; rfl, HB.out⟩
  · have hne : (len == len') = false := by simpa using hn
    have HN := Lib.hid (same_len (l := l) (l' := l') (by rw [HL.out, HL'.out]; exact hn))
    go_enter Tryz.func47, Tryz.ntmps47
    go_wp2_with fail
    go_ret
    exact ⟨by rw [HN.out]; rfl, Below.refl _ _⟩
theorem refStmts_upto (w0 : World) (n : Nat) : ∀ l l' : List (List D), SizeOf.sizeOf l ≤ n → (∀ z ∈ l, ShS z) → (∀ z ∈ l', ShS z) → RowsEq w0 47 l l' := by
  induction n with
  | zero => intro l l' h; cases l <;> simp at h <;> omega
  | succ n ih =>
    intro l l' hn hs hs'
    refine refStmts_step w0 l l' hs hs' fun m m' hm hsm hsm' => ih m m' ?_ hsm hsm'
    obtain ⟨x, hx, hm⟩ := hm
    have h1 := List.sizeOf_lt_of_mem hx
    have h2 := List.sizeOf_lt_of_mem hm
    have h3 : SizeOf.sizeOf (D.row m) = 1 + SizeOf.sizeOf m := by simp
    omega
theorem refStmts_any (w0 : World) (l l' : List (List D)) (hs : ∀ z ∈ l, ShS z) (hs' : ∀ z ∈ l', ShS z) : RowsEq w0 47 l l' := refStmts_upto w0 _ l l' (Nat.le_refl _) hs hs'
end Go.Proofs.YtciijpahjjoppaaGreat
end
section
namespace Go.Proofs.YtciijpahjjoppaaGreat
open Go.RowKit Go.Deep Go.Sort
theorem ty_neq (kd kd' sz sz' : Int) (tn tn' : ByteArray) (w : World) : Sem.run Tryz.prog (binOp .neq 73 (.agg #[.int .i64 kd, .int .i64 sz, .string tn]) (.agg #[.int .i64 kd', .int .i64 sz', .string tn'])) w = .ok (.bool (!tySame kd kd' sz sz' tn tn')) w := by
  rw [run_neq_struct, show (10000 : Nat) = 9998 + 1 + 1 from rfl, ty_equalIn]
  rfl
set_option maxRecDepth 100000 in
set_option maxHeartbeats 4000000 in
theorem refVars_any (w0 : World) (l l' : List (List D)) (hs : ∀ x ∈ l, ShV x) (hs' : ∀ x ∈ l', ShV x) : RowsEq w0 45 l l' := by
  intro a a' len len' cap cap' hA hA' W hW
  have HA := Lib.hid hA
  have HA' := Lib.hid hA'
  have HS := Lib.hid hs
  have HS' := Lib.hid hs'
  have HW := Lib.hid hW
  have hle := hA.len_le
  have hle' := hA'.len_le
  have HL := Lib.hid hA.len_eq.1
  have HL' := Lib.hid hA'.len_eq.1
  clear hA hA' hs hs' hW
  by_cases hn : len = len'
  · subst hn
    go_enter Tryz.func45, Tryz.ntmps45
    go_wp2_with fail
    go_loopw [5] (fun i wr => ∃ k : Nat, k ≤ len ∧ i = .int .i64 k ∧ l.take k = l'.take k ∧ Below W.heap.size W wr) (fun i _ => len - (intOf i).toNat)
    case atStart => exact ⟨0, Nat.zero_le _, rfl, rfl, Below.refl _ _⟩
    case round =>
      obtain ⟨k, hk, rfl, ht, hb⟩ := hrel
      have HT := Lib.hid ht
      have HB := Lib.hid hb
      clear ht hb
      by_cases hlt : k < len
      · obtain ⟨b, o, vs, ds, rfl, hbl, hx, hv, hc⟩ := HA.out.elem hlt
        obtain ⟨b', o', vs', ds', rfl, hbl', hx', hv', hc'⟩ := HA'.out.elem hlt
        have B0 := HW.out.trans (HB.out.mono HW.out.size)
        have hbw : b < wr.heap.size := Nat.lt_of_lt_of_le hbl B0.size
        have hbw' : b' < wr.heap.size := Nat.lt_of_lt_of_le hbl' B0.size
        have HX := Lib.hid hx
        have HX' := Lib.hid hx'
        have SX := Lib.hid (HS.out _ (List.mem_of_getElem? hx))
        have SX' := Lib.hid (HS'.out _ (List.mem_of_getElem? hx'))
        obtain ⟨m0, m1, nm, kd, sz, tn, m0a, m0c, m1a, m1c, hds, rfl, am0, am1, _, _, _, _, sm0, sm1⟩ := hv.openV SX.out
        obtain ⟨m0', m1', nm', kd', sz', tn', m0a', m0c', m1a', m1c', hds', rfl, am0', am1', _, _, _, _, sm0', sm1'⟩ := hv'.openV SX'.out
        have hdl : ds.length = 6 := by rw [hds]; rfl
        have hdl' : ds'.length = 6 := by rw [hds']; rfl
        rw [hdl] at hc
        rw [hdl'] at hc'
        have HDS := Lib.hid hds
        have HDS' := Lib.hid hds'
        clear hds hds' hdl hdl' hv hv'
        have c0 := cell_regrown ((B0.cell (p := ⟨b, o + k * 6, none⟩) hbl).trans (hc 0 _ rfl))
        have c1 := cell_regrown ((B0.cell (p := ⟨b, o + k * 6 + 1, none⟩) hbl).trans (hc 1 _ rfl))
        have c2 := cell_regrown ((B0.cell (p := ⟨b, o + k * 6 + 2, none⟩) hbl).trans (hc 2 _ rfl))
        have c3 := cell_regrown ((B0.cell (p := ⟨b, o + k * 6 + 3, none⟩) hbl).trans (hc 3 _ rfl))
        have c4 := cell_regrown ((B0.cell (p := ⟨b, o + k * 6 + 4, none⟩) hbl).trans (hc 4 _ rfl))
        have c5 := cell_regrown ((B0.cell (p := ⟨b, o + k * 6 + 5, none⟩) hbl).trans (hc 5 _ rfl))
        have c0' := cell_regrown ((B0.cell (p := ⟨b', o' + k * 6, none⟩) hbl').trans (hc' 0 _ rfl))
        have c1' := cell_regrown ((B0.cell (p := ⟨b', o' + k * 6 + 1, none⟩) hbl').trans (hc' 1 _ rfl))
        have c2' := cell_regrown ((B0.cell (p := ⟨b', o' + k * 6 + 2, none⟩) hbl').trans (hc' 2 _ rfl))
        have c3' := cell_regrown ((B0.cell (p := ⟨b', o' + k * 6 + 3, none⟩) hbl').trans (hc' 3 _ rfl))
        have c4' := cell_regrown ((B0.cell (p := ⟨b', o' + k * 6 + 4, none⟩) hbl').trans (hc' 4 _ rfl))
        have c5' := cell_regrown ((B0.cell (p := ⟨b', o' + k * 6 + 5, none⟩) hbl').trans (hc' 5 _ rfl))
        have hfn := fun W hW => refMarks_any w0 _ _ _ _ _ _ _ _ m0 m1 m0' m1' am0 am1 am0' am1' sm0 sm1 sm0' sm1' W hW
        have hgd : Tryz.prog.eqGuardType Tryz.prog.depth 73 = false := by kernel_rfl
        clear hx hx' hc hc'
        cases hM : same (α := List D) [.row m0, .row m1] [.row m0', .row m1'] with
        | false =>
          have HM := Lib.hid hM
          have HE := Lib.hid (same_miss HX.out HX'.out (by rw [HDS.out, HDS'.out]; exact same_no (α := List D) (x := [.row m0, .row m1, .str nm, .int kd, .int sz, .str tn]) (y := [.row m0', .row m1', .str nm', .int kd', .int sz', .str tn']) (fun z => same_neq HM.out (congrArg (fun z : List D => (z.drop 0).take 2) z))))
          clear hM
          have cF : ∀ d os, Calls Tryz.prog 44 #[.agg #[.slice m0a m0.length m0c, .slice m1a m1.length m1c], .agg #[.slice m0a' m0'.length m0c', .slice m1a' m1'.length m1c']] (grow (redrawn wr d) os) fun e w'' => e = .returned (.bool false) ∧ ∃ p : Regrown, w'' = grow (redrawn wr p.d) p.os := fun d os => by
            have := hfn _ (B0.trans ((below_regrown wr d os).mono B0.size))
            unfold EqPost at this
            rw [HM.out] at this
            exact Calls.regrown_of this
          have CF := Lib.hid cF
          clear cF hfn B0
          go_wp2_with fail
          refine wp_region_quiet_below (by kernel_rfl) (by kernel_rfl) ?_
          repeat (first | go_big_quiet_step ((with_reducible exact CF.out _ _)) | quiet_step ((with_reducible exact CF.out _ _)))
          refine wpQuiet_nil ?_
          intro _ hw'
          obtain ⟨⟨dq, osq⟩, hw''⟩ := hw'
          subst hw''
          have HB4 := Lib.hid (HB.out.trans ((below_regrown wr dq osq).mono HB.out.size))
          go_wp2_with fail
          go_ret
          exact ⟨by rw [HE.out]; rfl, HB4.out⟩
        | true =>
          have HM := Lib.hid hM
          clear hM
          cases hnm : nm.toList == nm'.toList with
          | false =>
            have hnn : (nm.toList != nm'.toList) = true := by rw [bne, hnm]; rfl
            have HE := Lib.hid (same_miss HX.out HX'.out (by rw [HDS.out, HDS'.out]; exact same_no (α := List D) (x := [.row m0, .row m1, .str nm, .int kd, .int sz, .str tn]) (y := [.row m0', .row m1', .str nm', .int kd', .int sz', .str tn']) (fun z => (fun e => by subst e; simp at hnm) (D.str.inj (congrArg (fun z : List D => nth z 2) z)))))
            have cF : ∀ d os, Calls Tryz.prog 44 #[.agg #[.slice m0a m0.length m0c, .slice m1a m1.length m1c], .agg #[.slice m0a' m0'.length m0c', .slice m1a' m1'.length m1c']] (grow (redrawn wr d) os) fun e w'' => e = .returned (.bool true) ∧ ∃ p : Regrown, w'' = grow (redrawn wr p.d) p.os := fun d os => by
              have := hfn _ (B0.trans ((below_regrown wr d os).mono B0.size))
              unfold EqPost at this
              rw [HM.out] at this
              exact Calls.regrown_of this
            have CF := Lib.hid cF
            clear cF hfn B0
            go_wp2_with fail
            refine wp_region_quiet_below (by kernel_rfl) (by kernel_rfl) ?_
            repeat (first | go_big_quiet_step ((with_reducible exact CF.out _ _)) | quiet_step ((with_reducible exact CF.out _ _)))
            refine wpQuiet_nil ?_
            intro _ hw'
            obtain ⟨⟨dq, osq⟩, hw''⟩ := hw'
            subst hw''
            have HB4 := Lib.hid (HB.out.trans ((below_regrown wr dq osq).mono HB.out.size))
            go_wp2_with fail
            go_ret
            exact ⟨by rw [HE.out]; rfl, HB4.out⟩
          | true =>
            have hnn : (nm.toList != nm'.toList) = false := by rw [bne, hnm]; rfl
            cases hTY : tySame kd kd' sz sz' tn tn' with
            | false =>
              have TYF := fun w => (ty_neq kd kd' sz sz' tn tn' w).trans (by rw [hTY, Bool.not_false])
              have HE := Lib.hid (same_miss HX.out HX'.out (by rw [HDS.out, HDS'.out]; exact same_no (α := List D) (x := [.row m0, .row m1, .str nm, .int kd, .int sz, .str tn]) (y := [.row m0', .row m1', .str nm', .int kd', .int sz', .str tn']) (fun z => tyList_no hTY (congrArg (fun z : List D => (z.drop 3).take 3) z))))
              clear hTY
              have cF : ∀ d os, Calls Tryz.prog 44 #[.agg #[.slice m0a m0.length m0c, .slice m1a m1.length m1c], .agg #[.slice m0a' m0'.length m0c', .slice m1a' m1'.length m1c']] (grow (redrawn wr d) os) fun e w'' => e = .returned (.bool true) ∧ ∃ p : Regrown, w'' = grow (redrawn wr p.d) p.os := fun d os => by
                have := hfn _ (B0.trans ((below_regrown wr d os).mono B0.size))
                unfold EqPost at this
                rw [HM.out] at this
                exact Calls.regrown_of this
              have CF := Lib.hid cF
              clear cF hfn B0
              go_wp2_with fail
              refine wp_region_quiet_below (by kernel_rfl) (by kernel_rfl) ?_
              repeat (first | go_big_quiet_step ((with_reducible exact CF.out _ _)) | quiet_step ((with_reducible exact CF.out _ _)))
              refine wpQuiet_nil ?_
              intro _ hw'
              obtain ⟨⟨dq, osq⟩, hw''⟩ := hw'
              subst hw''
              have HB4 := Lib.hid (HB.out.trans ((below_regrown wr dq osq).mono HB.out.size))
              go_wp2_with fail
              go_ret
              exact ⟨by rw [HE.out]; rfl, HB4.out⟩
            | true =>
              have TYF := fun w => (ty_neq kd kd' sz sz' tn tn' w).trans (by rw [hTY, Bool.not_true])
              have HE := Lib.hid (show ds = ds' by
                rw [HDS.out, HDS'.out]
                obtain ⟨rfl, rfl⟩ : m0 = m0' ∧ m1 = m1' := by simpa using (same_iff _ _).1 HM.out
                obtain rfl := (ba_eq_iff _ _).1 hnm
                obtain ⟨rfl, rfl, rfl⟩ := tySame_iff.1 hTY
                rfl)
              clear hTY
              have cF : ∀ d os, Calls Tryz.prog 44 #[.agg #[.slice m0a m0.length m0c, .slice m1a m1.length m1c], .agg #[.slice m0a' m0'.length m0c', .slice m1a' m1'.length m1c']] (grow (redrawn wr d) os) fun e w'' => e = .returned (.bool true) ∧ ∃ p : Regrown, w'' = grow (redrawn wr p.d) p.os := fun d os => by
                have := hfn _ (B0.trans ((below_regrown wr d os).mono B0.size))
                unfold EqPost at this
                rw [HM.out] at this
                exact Calls.regrown_of this
              have CF := Lib.hid cF
              clear cF hfn B0
              go_wp2_with fail
              refine wp_region_quiet_below (by kernel_rfl) (by kernel_rfl) ?_
              repeat (first | go_big_quiet_step ((with_reducible exact CF.out _ _)) | quiet_step ((with_reducible exact CF.out _ _)))
              refine wpQuiet_nil ?_
              intro _ hw'
              obtain ⟨⟨dq, osq⟩, hw''⟩ := hw'
              subst hw''
              have HB4 := Lib.hid (HB.out.trans ((below_regrown wr dq osq).mono HB.out.size))
              go_wp2_with fail
              go_roundw
              case rel => exact ⟨k + 1, by omega, by go_num, take_same_succ HX.out (HE.out ▸ HX'.out) HT.out, HB4.out⟩
              case measure => simp [intOf]; omega
      · obtain rfl : k = len := by omega
        go_wp2_with fail
        go_ret
        exact ⟨by rw [same_end (HL.out.trans HL'.out.symm) (by rw [HL.out]; exact HT.out)]; rfl, HB.out⟩
  · have hne : (len == len') = false := by simpa using hn
    have HN := Lib.hid (same_len (l := l) (l' := l') (by rw [HL.out, HL'.out]; exact hn))
    go_enter Tryz.func45, Tryz.ntmps45
    go_wp2_with fail
    go_ret
    exact ⟨by rw [HN.out]; rfl, Below.refl _ _⟩
end Go.Proofs.YtciijpahjjoppaaGreat
end
section
namespace Go.Proofs.YtciijpahjjoppaaGreat
open Go.RowKit Go.Deep Go.Sort
set_option maxRecDepth 100000 in
set_option maxHeartbeats 4000000 in
theorem refRoutines_step (w0 : World) (l l' : List (List D)) (hs : ∀ x ∈ l, ShR x) (hs' : ∀ x ∈ l', ShR x) (hf : ∀ m m', (∃ x ∈ l, D.row m ∈ x) → (∀ z ∈ m, ShR z) → (∀ z ∈ m', ShR z) → RowsEq w0 46 m m') : RowsEq w0 46 l l' := by
  intro a a' len len' cap cap' hA hA' W hW
  have HF := Lib.hid hf
  have HA := Lib.hid hA
  have HA' := Lib.hid hA'
  have HS := Lib.hid hs
  have HS' := Lib.hid hs'
  have HW := Lib.hid hW
  have hle := hA.len_le
  have hle' := hA'.len_le
  have HL := Lib.hid hA.len_eq.1
  have HL' := Lib.hid hA'.len_eq.1
  clear hA hA' hs hs' hW hf
  by_cases hn : len = len'
  · subst hn
    go_enter Tryz.func46, Tryz.ntmps46
    go_wp2_with fail
    go_loopw [5] (fun i wr => ∃ k : Nat, k ≤ len ∧ i = .int .i64 k ∧ l.take k = l'.take k ∧ Below W.heap.size W wr) (fun i _ => len - (intOf i).toNat)
    case atStart => exact ⟨0, Nat.zero_le _, rfl, rfl, Below.refl _ _⟩
    case round =>
      obtain ⟨k, hk, rfl, ht, hb⟩ := hrel
      have HT := Lib.hid ht
      have HB := Lib.hid hb
      clear ht hb
      by_cases hlt : k < len
      · obtain ⟨b, o, vs, ds, rfl, hbl, hx, hv, hc⟩ := HA.out.elem hlt
        obtain ⟨b', o', vs', ds', rfl, hbl', hx', hv', hc'⟩ := HA'.out.elem hlt
        have B0 := HW.out.trans (HB.out.mono HW.out.size)
        have hbw : b < wr.heap.size := Nat.lt_of_lt_of_le hbl B0.size
        have hbw' : b' < wr.heap.size := Nat.lt_of_lt_of_le hbl' B0.size
        have HX := Lib.hid hx
        have HX' := Lib.hid hx'
        have SX := Lib.hid (HS.out _ (List.mem_of_getElem? hx))
        have SX' := Lib.hid (HS'.out _ (List.mem_of_getElem? hx'))
        have hdl : ds.length = 9 := SX.out.ln
        have hdl' : ds'.length = 9 := SX'.out.ln
        rw [hdl] at hc
        rw [hdl'] at hc'
        have hvl := Lib.hid (hv.len.trans hdl)
        have hvl' := Lib.hid (hv'.len.trans hdl')
        have hvo := Lib.hid hv.one
        have hvo' := Lib.hid hv'.one
        have HV := Lib.hid hv
        have HV' := Lib.hid hv'
        clear hdl hdl' hv hv'
        clear hx hx'
        go_wp2_with fail
        refine wp_region_held (S := fun W => Below wr.heap.size wr W) (by kernel_rfl) ?_
        generalize hwn : ({ wr with drawn := wr.drawn + 1 } : World) = wn
        have BN : Below wr.heap.size wr wn := by rw [← hwn]; exact ⟨rfl, rfl, rfl, Nat.le_refl _, fun _ _ => rfl⟩
        clear hwn
        have C0 := Lib.hid (show ∀ W, Below wr.heap.size wr W → ∀ j v, vs[j]? = some v → W.cell? ⟨b, o + k * 9 + j, none⟩ = some v from fun W BW j v hv => (BW.cell (p := ⟨b, o + k * 9 + j, none⟩) hbw).trans ((B0.cell (p := ⟨b, o + k * 9 + j, none⟩) hbl).trans (hc j v hv)))
        have C1 := Lib.hid (show ∀ W, Below wr.heap.size wr W → ∀ j v, vs'[j]? = some v → W.cell? ⟨b', o' + k * 9 + j, none⟩ = some v from fun W BW j v hv => (BW.cell (p := ⟨b', o' + k * 9 + j, none⟩) hbw').trans ((B0.cell (p := ⟨b', o' + k * 9 + j, none⟩) hbl').trans (hc' j v hv)))
        clear hc hc'
        refine wpAnyH_take (i := 0) (oi := ⟨some 20, .move (.tmp 0), 32, "ref.go:320", #[], none⟩) (v := ?v0) rfl (by kernel_rfl) (by kernel_rfl) (by kernel_rfl) (fun _ _ _ h => h) (Or.inl ⟨by rfl, ?hy0⟩) BN ?rest0
        case hy0 => (intro W hSW; go_simp; try with_reducible rfl)
        simp only [Act.put, List.setIfInBounds_toArray, List.set_cons_zero, List.set_cons_succ]
        refine wpAnyH_take (i := 1) (oi := ⟨some 21, .move (.tmp 5), 3, "ref.go:320", #[], none⟩) (v := ?v1) rfl (by kernel_rfl) (by kernel_rfl) (by kernel_rfl) (fun _ _ _ h => h) (Or.inl ⟨by rfl, ?hy1⟩) BN ?rest1
        case hy1 => (intro W hSW; go_simp; try with_reducible rfl)
        simp only [Act.put, List.setIfInBounds_toArray, List.set_cons_zero, List.set_cons_succ]
        refine wpAnyH_take (i := 2) (oi := ⟨some 22, .indexAddr 32 (.tmp 20) (.tmp 21), 0, "ref.go:320", #[⟨0, .data⟩, ⟨1, .data⟩], none⟩) (v := ?v2) rfl (by kernel_rfl) (by kernel_rfl) (by kernel_rfl) (fun _ _ _ h => h) (Or.inl ⟨by rfl, ?hy2⟩) BN ?rest2
        case hy2 => (intro W hSW; go_simp; try with_reducible rfl)
        simp only [Act.put, List.setIfInBounds_toArray, List.set_cons_zero, List.set_cons_succ]
        refine wpAnyH_take (i := 3) (oi := ⟨some 23, .load 80 (.tmp 22), 80, "ref.go:320", #[⟨2, .data⟩], none⟩) (v := ?v3) rfl (by kernel_rfl) (by kernel_rfl) (by kernel_rfl) (fun _ _ _ h => h) (Or.inl ⟨by rfl, ?hy3⟩) BN ?rest3
        case hy3 => (intro W hSW; refine run_loadT Tryz.isAgg80 Tryz.sizeOf80 (x := .tmp 22) ?_ (b := b) (off := o + k * 9) ?_ hvl.out (C0.out W hSW) <;> rfl)
        simp only [Act.put, List.setIfInBounds_toArray, List.set_cons_zero, List.set_cons_succ]
        refine wpAnyH_take (i := 4) (oi := ⟨some 24, .move (.tmp 1), 32, "ref.go:320", #[{ on := 10, ground := Ground.gcOnly Departure.lateStores }], none⟩) (v := ?v4) rfl (by kernel_rfl) (by kernel_rfl) (by kernel_rfl) (fun _ _ _ h => h) (Or.inl ⟨by rfl, ?hy4⟩) BN ?rest4
        case hy4 => (intro W hSW; go_simp; try with_reducible rfl)
        simp only [Act.put, List.setIfInBounds_toArray, List.set_cons_zero, List.set_cons_succ]
        refine wpAnyH_take (i := 5) (oi := ⟨some 25, .move (.tmp 5), 3, "ref.go:320", #[{ on := 10, ground := Ground.gcOnly Departure.lateStores }], none⟩) (v := ?v5) rfl (by kernel_rfl) (by kernel_rfl) (by kernel_rfl) (fun _ _ _ h => h) (Or.inl ⟨by rfl, ?hy5⟩) BN ?rest5
        case hy5 => (intro W hSW; go_simp; try with_reducible rfl)
        simp only [Act.put, List.setIfInBounds_toArray, List.set_cons_zero, List.set_cons_succ]
        refine wpAnyH_take (i := 6) (oi := ⟨some 26, .indexAddr 32 (.tmp 24) (.tmp 25), 0, "ref.go:320", #[⟨4, .data⟩, ⟨5, .data⟩, { on := 10, ground := Ground.gcOnly Departure.lateStores }], none⟩) (v := ?v6) rfl (by kernel_rfl) (by kernel_rfl) (by kernel_rfl) (fun _ _ _ h => h) (Or.inl ⟨by rfl, ?hy6⟩) BN ?rest6
        case hy6 => (intro W hSW; go_simp; try with_reducible rfl)
        simp only [Act.put, List.setIfInBounds_toArray, List.set_cons_zero, List.set_cons_succ]
        refine wpAnyH_take (i := 7) (oi := ⟨some 27, .load 80 (.tmp 26), 80, "ref.go:320", #[⟨6, .data⟩, { on := 10, ground := Ground.gcOnly Departure.lateStores }], none⟩) (v := ?v7) rfl (by kernel_rfl) (by kernel_rfl) (by kernel_rfl) (fun _ _ _ h => h) (Or.inl ⟨by rfl, ?hy7⟩) BN ?rest7
        case hy7 => (intro W hSW; refine run_loadT Tryz.isAgg80 Tryz.sizeOf80 (x := .tmp 26) ?_ (b := b') (off := o' + k * 9) ?_ hvl'.out (C1.out W hSW) <;> rfl)
        simp only [Act.put, List.setIfInBounds_toArray, List.set_cons_zero, List.set_cons_succ]
        have HBN := Lib.hid BN
        refine pair_tail (T := 80) (k := 9) (l0 := 23) (l1 := 27) (i8 := 8) (i9 := 9) (i10 := 10) (i11 := 11) (vs := vs) (vs' := vs') ⟨rfl, rfl, rfl, rfl, rfl, rfl, rfl, rfl, rfl, rfl, rfl, rfl, rfl, rfl, rfl, rfl, by kernel_rfl, by kernel_rfl, by kernel_rfl, by kernel_rfl, by kernel_rfl, by kernel_rfl, by kernel_rfl, by kernel_rfl, by kernel_rfl⟩ Tryz.zeroValue80 Tryz.sizeOf80 rfl (by simp) (by simp) ⟨by decide, by decide⟩ ⟨by decide, by decide⟩ rfl rfl hvl.out hvl'.out hvo.out hvo'.out (fun W h => BN.trans (h.mono BN.size)) (fun p p' wb hp hp' kp kp' bb => ?_) 0
        obtain ⟨m0, m1, nm, rs, ps, vr, inn, bd, en, m0a, m0c, m1a, m1c, psa, psc, vra, vrc, inna, innc, bda, bdc, ena, enc, hds, hvs, am0, am1, inm, irs, aps, avr, ainn, abd, aen, sm0, sm1, sps, svr, sinn, sbd, sen⟩ := HV.out.openR SX.out
        rw [hvs] at kp
        have HDS := Lib.hid hds
        clear hds hvs
        obtain ⟨m0', m1', nm', rs', ps', vr', inn', bd', en', m0a', m0c', m1a', m1c', psa', psc', vra', vrc', inna', innc', bda', bdc', ena', enc', hds', hvs', am0', am1', inm', irs', aps', avr', ainn', abd', aen', sm0', sm1', sps', svr', sinn', sbd', sen'⟩ := HV'.out.openR SX'.out
        rw [hvs'] at kp'
        have HDS' := Lib.hid hds'
        clear hds' hvs'
        have R0 := Lib.hid (HB.out.trans (((HBN.out.trans (bb.mono HBN.out.size))).mono HB.out.size))
        have KA0 := Lib.hid kp
        have KB0 := Lib.hid kp'
        have cA0 := box_cells kp
        have cB0 := box_cells kp'
        clear bb kp kp'
        have Am0 := Lib.hid am0
        have Am0' := Lib.hid am0'
        have Am1 := Lib.hid am1
        have Am1' := Lib.hid am1'
        have Aps := Lib.hid aps
        have Aps' := Lib.hid aps'
        have Avr := Lib.hid avr
        have Avr' := Lib.hid avr'
        have Ainn := Lib.hid ainn
        have Ainn' := Lib.hid ainn'
        have Abd := Lib.hid abd
        have Abd' := Lib.hid abd'
        have Aen := Lib.hid aen
        have Aen' := Lib.hid aen'
        have Pen := Lib.hid (texts_rows w0 en en' sen sen')
        have Pvr := Lib.hid (refVars_any w0 vr vr' svr svr')
        have Pinn := Lib.hid (HF.out inn inn' ⟨ds, List.mem_of_getElem? HX.out, by rw [HDS.out]; simp⟩ sinn sinn')
        have Pbd := Lib.hid (refStmts_any w0 bd bd' sbd sbd')
        have PM := Lib.hid (fun W hW => refMarks_any w0 _ _ _ _ _ _ _ _ m0 m1 m0' m1' am0 am1 am0' am1' sm0 sm1 sm0' sm1' W hW)
        have Sps := Lib.hid sps
        have Sps' := Lib.hid sps'
        have leps := aps.len_le
        have leps' := aps'.len_le
        clear am0 am1 inm irs aps avr ainn abd aen sm0 sm1 sps svr sinn sbd sen am0' am1' inm' irs' aps' avr' ainn' abd' aen' sm0' sm1' sps' svr' sinn' sbd' sen'
        go_wp2_with fail
        have Z1 := HW.out.trans (R0.out.mono HW.out.size)
        refine (PM.out _ Z1).mono ?_
        rintro e w1 ⟨rfl, b1⟩
        have R1 := Lib.hid (R0.out.trans (b1.mono R0.out.size))
        have KA1 := Lib.hid ((b1.block _ (heap_lt KA0.out)).trans KA0.out)
        have KB1 := Lib.hid ((b1.block _ (heap_lt KB0.out)).trans KB0.out)
        have cA1 := box_cells KA1.out
        have cB1 := box_cells KB1.out
        clear b1 Z1 cA0 cB0
        cases hM : same (α := List D) [.row m0, .row m1] [.row m0', .row m1'] with
        | false =>
          have GH := Lib.hid (same_neq hM)
          clear hM
          have HE := Lib.hid (same_miss HX.out HX'.out (by rw [HDS.out, HDS'.out]; exact same_no (α := List D) (x := [.row m0, .row m1, .str nm, .int rs, .row ps, .row vr, .row inn, .row bd, .row en]) (y := [.row m0', .row m1', .str nm', .int rs', .row ps', .row vr', .row inn', .row bd', .row en']) (fun z => GH.out (congrArg (fun z : List D => (z.drop 0).take 2) z))))
          go_wp2_with fail
          go_ret
          exact ⟨by rw [HE.out]; rfl, R1.out⟩
        | true =>
          have QM := Lib.hid ((same_iff _ _).1 hM)
          clear hM
          cases hnm : nm.toList == nm'.toList with
          | false =>
            have hnnm : (nm.toList != nm'.toList) = true := by rw [bne, hnm]; rfl
            have GH := Lib.hid (show nm ≠ nm' from (fun z => by subst z; simp at hnm))
            have HE := Lib.hid (same_miss HX.out HX'.out (by rw [HDS.out, HDS'.out]; exact same_no (α := List D) (x := [.row m0, .row m1, .str nm, .int rs, .row ps, .row vr, .row inn, .row bd, .row en]) (y := [.row m0', .row m1', .str nm', .int rs', .row ps', .row vr', .row inn', .row bd', .row en']) (fun z => GH.out (D.str.inj (congrArg (fun z : List D => nth z 2) z)))))
            go_wp2_with fail
            go_ret
            exact ⟨by rw [HE.out]; rfl, R1.out⟩
          | true =>
            have hnnm : (nm.toList != nm'.toList) = false := by rw [bne, hnm]; rfl
            have Qnm := Lib.hid (show nm = nm' from ((ba_eq_iff _ _).1 hnm))
            cases hrs : rs == rs' with
            | false =>
              have hnrs : (rs != rs') = true := by rw [bne, hrs]; rfl
              have GH := Lib.hid (show rs ≠ rs' from (by simpa using hrs))
              have HE := Lib.hid (same_miss HX.out HX'.out (by rw [HDS.out, HDS'.out]; exact same_no (α := List D) (x := [.row m0, .row m1, .str nm, .int rs, .row ps, .row vr, .row inn, .row bd, .row en]) (y := [.row m0', .row m1', .str nm', .int rs', .row ps', .row vr', .row inn', .row bd', .row en']) (fun z => GH.out (D.int.inj (congrArg (fun z : List D => nth z 3) z)))))
              go_wp2_with fail
              go_ret
              exact ⟨by rw [HE.out]; rfl, R1.out⟩
            | true =>
              have hnrs : (rs != rs') = false := by rw [bne, hrs]; rfl
              have Qrs := Lib.hid (show rs = rs' from (by simpa using hrs))
              cases hlps : ps.length == ps'.length with
              | false =>
                have hmps : (ps.length != ps'.length) = true := by rw [bne, hlps]; rfl
                have hips : (((ps.length : Nat) : Int) == ((ps'.length : Nat) : Int)) = false := int_beq_no (by simpa using hlps)
                have hjps : (((ps.length : Nat) : Int) != ((ps'.length : Nat) : Int)) = true := by rw [bne, hips]; rfl
                have GH := Lib.hid (show ps ≠ ps' from fun z => by subst z; simp at hlps)
                have HE := Lib.hid (same_miss HX.out HX'.out (by rw [HDS.out, HDS'.out]; exact same_no (α := List D) (x := [.row m0, .row m1, .str nm, .int rs, .row ps, .row vr, .row inn, .row bd, .row en]) (y := [.row m0', .row m1', .str nm', .int rs', .row ps', .row vr', .row inn', .row bd', .row en']) (fun z => GH.out (D.row.inj (congrArg (fun z : List D => nth z 4) z)))))
                go_wp2_with fail
                go_ret
                exact ⟨by rw [HE.out]; rfl, R1.out⟩
              | true =>
                have hmps : (ps.length != ps'.length) = false := by rw [bne, hlps]; rfl
                have hips : (((ps.length : Nat) : Int) == ((ps'.length : Nat) : Int)) = true := int_beq_yes (by simpa using hlps)
                have hjps : (((ps.length : Nat) : Int) != ((ps'.length : Nat) : Int)) = false := by rw [bne, hips]; rfl
                have QLps := Lib.hid (show ps.length = ps'.length from by simpa using hlps)
                go_wp2_with fail
                have Z2 := HW.out.trans (R1.out.mono HW.out.size)
                refine (Pen.out _ _ _ _ _ _ Aen.out Aen'.out _ Z2).mono ?_
                rintro e w2 ⟨rfl, b2⟩
                have R2 := Lib.hid (R1.out.trans (b2.mono R1.out.size))
                have KA2 := Lib.hid ((b2.block _ (heap_lt KA1.out)).trans KA1.out)
                have KB2 := Lib.hid ((b2.block _ (heap_lt KB1.out)).trans KB1.out)
                have cA2 := box_cells KA2.out
                have cB2 := box_cells KB2.out
                clear b2 Z2 cA1 cB1
                cases hen : same en en' with
                | false =>
                  have GH := Lib.hid (same_neq hen)
                  clear hen
                  have HE := Lib.hid (same_miss HX.out HX'.out (by rw [HDS.out, HDS'.out]; exact same_no (α := List D) (x := [.row m0, .row m1, .str nm, .int rs, .row ps, .row vr, .row inn, .row bd, .row en]) (y := [.row m0', .row m1', .str nm', .int rs', .row ps', .row vr', .row inn', .row bd', .row en']) (fun z => GH.out (D.row.inj (congrArg (fun z : List D => nth z 8) z)))))
                  go_wp2_with fail
                  go_ret
                  exact ⟨by rw [HE.out]; rfl, R2.out⟩
                | true =>
                  have Qen := Lib.hid ((same_iff _ _).1 hen)
                  clear hen
                  go_wp2_with fail
                  go_loopw [8] (fun i wr => ∃ j : Nat, j ≤ ps.length ∧ i = .int .i64 j ∧ ps.take j = ps'.take j ∧ wr.heap[p]? = w2.heap[p]? ∧ wr.heap[p']? = w2.heap[p']? ∧ Below W.heap.size W wr) (fun i _ => ps.length - (intOf i).toNat)
                  case atStart => exact ⟨0, Nat.zero_le _, rfl, rfl, rfl, rfl, R2.out⟩
                  case round =>
                    rename_i wr2 _ _
                    obtain ⟨j, hj, rfl, htj, ka, kb, hRj⟩ := hrel
                    have HTJ := Lib.hid htj
                    have R3 := Lib.hid hRj
                    have KA3 := Lib.hid (ka.trans KA2.out)
                    have KB3 := Lib.hid (kb.trans KB2.out)
                    have HKA := Lib.hid ka
                    have HKB := Lib.hid kb
                    have cA3 := box_cells KA3.out
                    have cB3 := box_cells KB3.out
                    clear htj hRj ka kb cA2 cB2
                    by_cases hlj : j < ps.length
                    · obtain ⟨b2, o2, vs2, ds2, hea, hbl2, hx2, hv2, hc2⟩ := Aps.out.elem hlj
                      obtain ⟨b2', o2', vs2', ds2', hea', hbl2', hx2', hv2', hc2'⟩ := Aps'.out.elem (j := j) (by have := QLps.out; omega)
                      rw [hea] at cA3
                      rw [hea'] at cB3
                      obtain ⟨nmx, kdx, szx, tnx, mdx, rfl, rfl, _⟩ := hv2.openP (Sps.out _ (List.mem_of_getElem? hx2))
                      obtain ⟨nmy, kdy, szy, tny, mdy, rfl, rfl, _⟩ := hv2'.openP (Sps'.out _ (List.mem_of_getElem? hx2'))
                      have B2 := HW.out.trans (R3.out.mono HW.out.size)
                      have hc2 : ∀ (i : Nat) (v : Value), [Value.string nmx, .int .i64 kdx, .int .i64 szx, .string tnx, .int .i64 mdx][i]? = some v → w0.cell? ⟨b2, o2 + j * 5 + i, none⟩ = some v := hc2
                      have hc2' : ∀ (i : Nat) (v : Value), [Value.string nmy, .int .i64 kdy, .int .i64 szy, .string tny, .int .i64 mdy][i]? = some v → w0.cell? ⟨b2', o2' + j * 5 + i, none⟩ = some v := hc2'
                      have d0 := (B2.cell (p := ⟨b2, o2 + j * 5, none⟩) hbl2).trans (hc2 0 _ rfl)
                      have d1 := (B2.cell (p := ⟨b2, o2 + j * 5 + 1, none⟩) hbl2).trans (hc2 1 _ rfl)
                      have d2 := (B2.cell (p := ⟨b2, o2 + j * 5 + 2, none⟩) hbl2).trans (hc2 2 _ rfl)
                      have d3 := (B2.cell (p := ⟨b2, o2 + j * 5 + 3, none⟩) hbl2).trans (hc2 3 _ rfl)
                      have d4 := (B2.cell (p := ⟨b2, o2 + j * 5 + 4, none⟩) hbl2).trans (hc2 4 _ rfl)
                      have d0' := (B2.cell (p := ⟨b2', o2' + j * 5, none⟩) hbl2').trans (hc2' 0 _ rfl)
                      have d1' := (B2.cell (p := ⟨b2', o2' + j * 5 + 1, none⟩) hbl2').trans (hc2' 1 _ rfl)
                      have d2' := (B2.cell (p := ⟨b2', o2' + j * 5 + 2, none⟩) hbl2').trans (hc2' 2 _ rfl)
                      have d3' := (B2.cell (p := ⟨b2', o2' + j * 5 + 3, none⟩) hbl2').trans (hc2' 3 _ rfl)
                      have d4' := (B2.cell (p := ⟨b2', o2' + j * 5 + 4, none⟩) hbl2').trans (hc2' 4 _ rfl)
                      have hgd : Tryz.prog.eqGuardType Tryz.prog.depth 133 = false := by kernel_rfl
                      have HX2 := Lib.hid hx2
                      have HX2' := Lib.hid hx2'
                      have hjl' : j < ps'.length := by have := QLps.out; omega
                      clear hx2 hx2' B2 hc2 hc2' hv2 hv2' hea hea'
                      cases hsm : pmSame nmx nmy kdx kdy szx szy tnx tny mdx mdy with
                      | true =>
                        have HE2 := Lib.hid (show ([.str nmx, .int kdx, .int szx, .str tnx, .int mdx] : List D) = [.str nmy, .int kdy, .int szy, .str tny, .int mdy] by obtain ⟨rfl, ⟨rfl, rfl, rfl⟩, rfl⟩ := pmSame_iff.1 hsm; rfl)
                        have TYF := fun w => (pm_neq nmx nmy kdx kdy szx szy tnx tny mdx mdy w).trans (by rw [hsm, Bool.not_true])
                        clear hsm
                        go_wp2_with fail
                        go_quiet (fail)
                        go_wp2_with fail
                        go_roundw
                        case rel => exact ⟨j + 1, by omega, by go_num, take_same_succ HX2.out (HE2.out ▸ HX2'.out) HTJ.out, HKA.out, HKB.out, below_drewE R3.out _⟩
                        case measure => simp [intOf]; omega
                      | false =>
                        have GH := Lib.hid (same_neq (same_miss HX2.out HX2'.out (same_no fun e => by
                          have : pmSame nmx nmy kdx kdy szx szy tnx tny mdx mdy = true := pmSame_iff.2 (by simp at e; exact ⟨e.1, ⟨e.2.1, e.2.2.1, e.2.2.2.1⟩, e.2.2.2.2⟩)
                          rw [hsm] at this
                          cases this)))
                        have TYF := fun w => (pm_neq nmx nmy kdx kdy szx szy tnx tny mdx mdy w).trans (by rw [hsm, Bool.not_false])
                        clear hsm
                        have HE := Lib.hid (same_miss HX.out HX'.out (by rw [HDS.out, HDS'.out]; exact same_no (α := List D) (x := [.row m0, .row m1, .str nm, .int rs, .row ps, .row vr, .row inn, .row bd, .row en]) (y := [.row m0', .row m1', .str nm', .int rs', .row ps', .row vr', .row inn', .row bd', .row en']) (fun z => GH.out (D.row.inj (congrArg (fun z : List D => nth z 4) z)))))
                        go_wp2_with fail
                        go_quiet (fail)
                        go_wp2_with fail
                        go_ret
                        exact ⟨by rw [HE.out]; rfl, below_drewE R3.out _⟩
                    · have Qps := Lib.hid (show ps = ps' by
                        have h1 := HTJ.out
                        rw [List.take_of_length_le (by omega), List.take_of_length_le (by have := QLps.out; omega)] at h1
                        exact h1)
                      obtain rfl : j = ps.length := by omega
                      go_wp2_with fail
                      have Z4 := HW.out.trans (R3.out.mono HW.out.size)
                      refine (Pvr.out _ _ _ _ _ _ Avr.out Avr'.out _ Z4).mono ?_
                      rintro e w4 ⟨rfl, b4⟩
                      have R4 := Lib.hid (R3.out.trans (b4.mono R3.out.size))
                      have KA4 := Lib.hid ((b4.block _ (heap_lt KA3.out)).trans KA3.out)
                      have KB4 := Lib.hid ((b4.block _ (heap_lt KB3.out)).trans KB3.out)
                      have cA4 := box_cells KA4.out
                      have cB4 := box_cells KB4.out
                      clear b4 Z4 cA3 cB3
                      cases hvr : same vr vr' with
                      | false =>
                        have GH := Lib.hid (same_neq hvr)
                        clear hvr
                        have HE := Lib.hid (same_miss HX.out HX'.out (by rw [HDS.out, HDS'.out]; exact same_no (α := List D) (x := [.row m0, .row m1, .str nm, .int rs, .row ps, .row vr, .row inn, .row bd, .row en]) (y := [.row m0', .row m1', .str nm', .int rs', .row ps', .row vr', .row inn', .row bd', .row en']) (fun z => GH.out (D.row.inj (congrArg (fun z : List D => nth z 5) z)))))
                        go_wp2_with fail
                        go_ret
                        exact ⟨by rw [HE.out]; rfl, R4.out⟩
                      | true =>
                        have Qvr := Lib.hid ((same_iff _ _).1 hvr)
                        clear hvr
                        go_wp2_with fail
                        have Z5 := HW.out.trans (R4.out.mono HW.out.size)
                        refine (Pinn.out _ _ _ _ _ _ Ainn.out Ainn'.out _ Z5).mono ?_
                        rintro e w5 ⟨rfl, b5⟩
                        have R5 := Lib.hid (R4.out.trans (b5.mono R4.out.size))
                        have KA5 := Lib.hid ((b5.block _ (heap_lt KA4.out)).trans KA4.out)
                        have KB5 := Lib.hid ((b5.block _ (heap_lt KB4.out)).trans KB4.out)
                        have cA5 := box_cells KA5.out
                        have cB5 := box_cells KB5.out
                        clear b5 Z5 cA4 cB4
                        cases hinn : same inn inn' with
                        | false =>
                          have GH := Lib.hid (same_neq hinn)
                          clear hinn
                          have HE := Lib.hid (same_miss HX.out HX'.out (by rw [HDS.out, HDS'.out]; exact same_no (α := List D) (x := [.row m0, .row m1, .str nm, .int rs, .row ps, .row vr, .row inn, .row bd, .row en]) (y := [.row m0', .row m1', .str nm', .int rs', .row ps', .row vr', .row inn', .row bd', .row en']) (fun z => GH.out (D.row.inj (congrArg (fun z : List D => nth z 6) z)))))
                          go_wp2_with fail
                          go_ret
                          exact ⟨by rw [HE.out]; rfl, R5.out⟩
                        | true =>
                          have Qinn := Lib.hid ((same_iff _ _).1 hinn)
                          clear hinn
                          go_wp2_with fail
                          have Z6 := HW.out.trans (R5.out.mono HW.out.size)
                          refine (Pbd.out _ _ _ _ _ _ Abd.out Abd'.out _ Z6).mono ?_
                          rintro e w6 ⟨rfl, b6⟩
                          have R6 := Lib.hid (R5.out.trans (b6.mono R5.out.size))
                          have KA6 := Lib.hid ((b6.block _ (heap_lt KA5.out)).trans KA5.out)
                          have KB6 := Lib.hid ((b6.block _ (heap_lt KB5.out)).trans KB5.out)
                          have cA6 := box_cells KA6.out
                          have cB6 := box_cells KB6.out
                          clear b6 Z6 cA5 cB5
                          cases hbd : same bd bd' with
                          | false =>
                            have GH := Lib.hid (same_neq hbd)
                            clear hbd
                            have HE := Lib.hid (same_miss HX.out HX'.out (by rw [HDS.out, HDS'.out]; exact same_no (α := List D) (x := [.row m0, .row m1, .str nm, .int rs, .row ps, .row vr, .row inn, .row bd, .row en]) (y := [.row m0', .row m1', .str nm', .int rs', .row ps', .row vr', .row inn', .row bd', .row en']) (fun z => GH.out (D.row.inj (congrArg (fun z : List D => nth z 7) z)))))
                            go_wp2_with fail
                            go_ret
                            exact ⟨by rw [HE.out]; rfl, R6.out⟩
                          | true =>
                            have Qbd := Lib.hid ((same_iff _ _).1 hbd)
                            clear hbd
                            have HE := Lib.hid (show ds = ds' by
                              rw [HDS.out, HDS'.out]
                              obtain ⟨rfl, rfl⟩ : m0 = m0' ∧ m1 = m1' := by simpa using QM.out
                              obtain rfl := Qnm.out
                              obtain rfl := Qrs.out
                              obtain rfl := Qen.out
                              obtain rfl := Qps.out
                              obtain rfl := Qvr.out
                              obtain rfl := Qinn.out
                              obtain rfl := Qbd.out
                              rfl)
                            go_wp2_with fail
                            go_roundw
                            case rel => exact ⟨k + 1, by omega, by go_num, take_same_succ HX.out (HE.out ▸ HX'.out) HT.out, R6.out⟩
                            case measure => simp [intOf]; omega
      · obtain rfl : k = len := by omega
        go_wp2_with fail
        go_ret
        exact ⟨by rw [same_end (HL.out.trans HL'.out.symm) (by rw [HL.out]; exact HT.out)]; rfl, HB.out⟩
  · have hne : (len == len') = false := by simpa using hn
    have HN := Lib.hid (same_len (l := l) (l' := l') (by rw [HL.out, HL'.out]; exact hn))
    go_enter Tryz.func46, Tryz.ntmps46
    go_wp2_with fail
    go_ret
    exact ⟨by rw [HN.out]; rfl, Below.refl _ _⟩
theorem refRoutines_upto (w0 : World) (n : Nat) : ∀ l l' : List (List D), SizeOf.sizeOf l ≤ n → (∀ z ∈ l, ShR z) → (∀ z ∈ l', ShR z) → RowsEq w0 46 l l' := by
  induction n with
  | zero => intro l l' h; cases l <;> simp at h <;> omega
  | succ n ih =>
    intro l l' hn hs hs'
    refine refRoutines_step w0 l l' hs hs' fun m m' hm hsm hsm' => ih m m' ?_ hsm hsm'
    obtain ⟨x, hx, hm⟩ := hm
    have h1 := List.sizeOf_lt_of_mem hx
    have h2 := List.sizeOf_lt_of_mem hm
    have h3 : SizeOf.sizeOf (D.row m) = 1 + SizeOf.sizeOf m := by simp
    omega
theorem refRoutines_any (w0 : World) (l l' : List (List D)) (hs : ∀ z ∈ l, ShR z) (hs' : ∀ z ∈ l', ShR z) : RowsEq w0 46 l l' := refRoutines_upto w0 _ l l' (Nat.le_refl _) hs hs'
end Go.Proofs.YtciijpahjjoppaaGreat
end
section
namespace Go.Proofs.YtciijpahjjoppaaGreat
open Go.RowKit Go.Deep Go.Sort
set_option maxRecDepth 100000 in
set_option maxHeartbeats 8000000 in
theorem refSame_any (w0 : World) (x y : List D) (hx : ShG x) (hy : ShG y) (vs0 ws0 : List Value) (hv : AllAt w0 vs0 x) (hw : AllAt w0 ws0 y) (W : World) (hW : Below w0.heap.size w0 W) : Calls Tryz.prog 15 #[.agg ⟨vs0⟩, .agg ⟨ws0⟩] W (EqPost x y W) := by
  obtain ⟨nm, be, mi, af, rc, vr, rt, bd, en, bea, bec, mia, mic, afa, afc, rca, rcc, vra, vrc, rta, rtc, bda, bdc, ena, enc, rfl, rfl, -, abe, ami, aaf, arc, avr, art, abd, aen, sbe, smi, saf, src, svr, srt, sbd, sen⟩ := hv.openG hx
  obtain ⟨nm', be', mi', af', rc', vr', rt', bd', en', bea', bec', mia', mic', afa', afc', rca', rcc', vra', vrc', rta', rtc', bda', bdc', ena', enc', rfl, rfl, -, abe', ami', aaf', arc', avr', art', abd', aen', sbe', smi', saf', src', svr', srt', sbd', sen'⟩ := hw.openG hy
  have Pbe := Lib.hid (texts_rows w0 be be' sbe sbe')
  have Pmi := Lib.hid (texts_rows w0 mi mi' smi smi')
  have Paf := Lib.hid (texts_rows w0 af af' saf saf')
  have Pen := Lib.hid (texts_rows w0 en en' sen sen')
  have Pvr := Lib.hid (refVars_any w0 vr vr' svr svr')
  have Prt := Lib.hid (refRoutines_any w0 rt rt' srt srt')
  have Pbd := Lib.hid (refStmts_any w0 bd bd' sbd sbd')
  have Abe := Lib.hid abe
  have Ami := Lib.hid ami
  have Aaf := Lib.hid aaf
  have Arc := Lib.hid arc
  have Avr := Lib.hid avr
  have Art := Lib.hid art
  have Abd := Lib.hid abd
  have Aen := Lib.hid aen
  have Src := Lib.hid src
  have lerc := arc.len_le
  have Abe' := Lib.hid abe'
  have Ami' := Lib.hid ami'
  have Aaf' := Lib.hid aaf'
  have Arc' := Lib.hid arc'
  have Avr' := Lib.hid avr'
  have Art' := Lib.hid art'
  have Abd' := Lib.hid abd'
  have Aen' := Lib.hid aen'
  have Src' := Lib.hid src'
  have lerc' := arc'.len_le
  clear hx hy hv hw abe sbe abe' sbe' ami smi ami' smi' aaf saf aaf' saf' arc src arc' src' avr svr avr' svr' art srt art' srt' abd sbd abd' sbd' aen sen aen' sen'
  have HW := Lib.hid hW
  clear hW
  have R0 := Lib.hid (((Below.refl W.heap.size W).alloc (Nat.le_refl _) (.cells #[.string nm, .slice bea be.length bec, .slice mia mi.length mic, .slice afa af.length afc, .slice rca rc.length rcc, .slice vra vr.length vrc, .slice rta rt.length rtc, .slice bda bd.length bdc, .slice ena en.length enc] 35)).alloc (by simp) (.cells #[.string nm', .slice bea' be'.length bec', .slice mia' mi'.length mic', .slice afa' af'.length afc', .slice rca' rc'.length rcc', .slice vra' vr'.length vrc', .slice rta' rt'.length rtc', .slice bda' bd'.length bdc', .slice ena' en'.length enc'] 35))
  have KA0 := Lib.hid (box_first W (.cells #[.string nm, .slice bea be.length bec, .slice mia mi.length mic, .slice afa af.length afc, .slice rca rc.length rcc, .slice vra vr.length vrc, .slice rta rt.length rtc, .slice bda bd.length bdc, .slice ena en.length enc] 35) (.cells #[.string nm', .slice bea' be'.length bec', .slice mia' mi'.length mic', .slice afa' af'.length afc', .slice rca' rc'.length rcc', .slice vra' vr'.length vrc', .slice rta' rt'.length rtc', .slice bda' bd'.length bdc', .slice ena' en'.length enc'] 35))
  have KB0 := Lib.hid (box_second W (.cells #[.string nm, .slice bea be.length bec, .slice mia mi.length mic, .slice afa af.length afc, .slice rca rc.length rcc, .slice vra vr.length vrc, .slice rta rt.length rtc, .slice bda bd.length bdc, .slice ena en.length enc] 35) (.cells #[.string nm', .slice bea' be'.length bec', .slice mia' mi'.length mic', .slice afa' af'.length afc', .slice rca' rc'.length rcc', .slice vra' vr'.length vrc', .slice rta' rt'.length rtc', .slice bda' bd'.length bdc', .slice ena' en'.length enc'] 35))
  cases hnm : nm.toList == nm'.toList with
  | false =>
    have hnn : (nm.toList != nm'.toList) = true := by rw [bne, hnm]; rfl
    have GH := Lib.hid (show nm ≠ nm' from (fun z => by subst z; simp at hnm))
    go_enter Tryz.func15, Tryz.ntmps15
    have HE := Lib.hid (same_no (α := List D) (x := [.str nm, .row be, .row mi, .row af, .row rc, .row vr, .row rt, .row bd, .row en]) (y := [.str nm', .row be', .row mi', .row af', .row rc', .row vr', .row rt', .row bd', .row en']) (fun z => GH.out (D.str.inj (congrArg (fun z : List D => nth z 0) z))))
    go_wp2_with fail
    go_ret
    exact ⟨by rw [HE.out]; rfl, R0.out⟩
  | true =>
    have hnn : (nm.toList != nm'.toList) = false := by rw [bne, hnm]; rfl
    have Qnm := Lib.hid ((ba_eq_iff _ _).1 hnm)
    go_enter Tryz.func15, Tryz.ntmps15
    go_wp2_with fail
    have Z1 := HW.out.trans (R0.out.mono HW.out.size)
    refine (Pbe.out _ _ _ _ _ _ Abe.out Abe'.out _ Z1).mono ?_
    rintro e w1 ⟨rfl, b1⟩
    have R1 := Lib.hid (R0.out.trans (b1.mono R0.out.size))
    have KA1 := Lib.hid ((b1.block _ (heap_lt KA0.out)).trans KA0.out)
    have KB1 := Lib.hid ((b1.block _ (heap_lt KB0.out)).trans KB0.out)
    have cA1 := box_cells KA1.out
    have cB1 := box_cells KB1.out
    clear b1 Z1
    cases hbe : same be be' with
    | false =>
      have GH := Lib.hid (same_neq hbe)
      clear hbe
      have HE := Lib.hid (same_no (α := List D) (x := [.str nm, .row be, .row mi, .row af, .row rc, .row vr, .row rt, .row bd, .row en]) (y := [.str nm', .row be', .row mi', .row af', .row rc', .row vr', .row rt', .row bd', .row en']) (fun z => GH.out (D.row.inj (congrArg (fun z : List D => nth z 1) z))))
      go_wp2_with fail
      go_ret
      exact ⟨by rw [HE.out]; rfl, R1.out⟩
    | true =>
      have Qbe := Lib.hid ((same_iff _ _).1 hbe)
      clear hbe
      go_wp2_with fail
      have Z2 := HW.out.trans (R1.out.mono HW.out.size)
      refine (Pmi.out _ _ _ _ _ _ Ami.out Ami'.out _ Z2).mono ?_
      rintro e w2 ⟨rfl, b2⟩
      have R2 := Lib.hid (R1.out.trans (b2.mono R1.out.size))
      have KA2 := Lib.hid ((b2.block _ (heap_lt KA1.out)).trans KA1.out)
      have KB2 := Lib.hid ((b2.block _ (heap_lt KB1.out)).trans KB1.out)
      have cA2 := box_cells KA2.out
      have cB2 := box_cells KB2.out
      clear b2 Z2 cA1 cB1
      cases hmi : same mi mi' with
      | false =>
        have GH := Lib.hid (same_neq hmi)
        clear hmi
        have HE := Lib.hid (same_no (α := List D) (x := [.str nm, .row be, .row mi, .row af, .row rc, .row vr, .row rt, .row bd, .row en]) (y := [.str nm', .row be', .row mi', .row af', .row rc', .row vr', .row rt', .row bd', .row en']) (fun z => GH.out (D.row.inj (congrArg (fun z : List D => nth z 2) z))))
        go_wp2_with fail
        go_ret
        exact ⟨by rw [HE.out]; rfl, R2.out⟩
      | true =>
        have Qmi := Lib.hid ((same_iff _ _).1 hmi)
        clear hmi
        go_wp2_with fail
        have Z3 := HW.out.trans (R2.out.mono HW.out.size)
        refine (Paf.out _ _ _ _ _ _ Aaf.out Aaf'.out _ Z3).mono ?_
        rintro e w3 ⟨rfl, b3⟩
        have R3 := Lib.hid (R2.out.trans (b3.mono R2.out.size))
        have KA3 := Lib.hid ((b3.block _ (heap_lt KA2.out)).trans KA2.out)
        have KB3 := Lib.hid ((b3.block _ (heap_lt KB2.out)).trans KB2.out)
        have cA3 := box_cells KA3.out
        have cB3 := box_cells KB3.out
        clear b3 Z3 cA2 cB2
        cases haf : same af af' with
        | false =>
          have GH := Lib.hid (same_neq haf)
          clear haf
          have HE := Lib.hid (same_no (α := List D) (x := [.str nm, .row be, .row mi, .row af, .row rc, .row vr, .row rt, .row bd, .row en]) (y := [.str nm', .row be', .row mi', .row af', .row rc', .row vr', .row rt', .row bd', .row en']) (fun z => GH.out (D.row.inj (congrArg (fun z : List D => nth z 3) z))))
          go_wp2_with fail
          go_ret
          exact ⟨by rw [HE.out]; rfl, R3.out⟩
        | true =>
          have Qaf := Lib.hid ((same_iff _ _).1 haf)
          clear haf
          go_wp2_with fail
          have Z4 := HW.out.trans (R3.out.mono HW.out.size)
          refine (Pen.out _ _ _ _ _ _ Aen.out Aen'.out _ Z4).mono ?_
          rintro e w4 ⟨rfl, b4⟩
          have R4 := Lib.hid (R3.out.trans (b4.mono R3.out.size))
          have KA4 := Lib.hid ((b4.block _ (heap_lt KA3.out)).trans KA3.out)
          have KB4 := Lib.hid ((b4.block _ (heap_lt KB3.out)).trans KB3.out)
          have cA4 := box_cells KA4.out
          have cB4 := box_cells KB4.out
          clear b4 Z4 cA3 cB3
          cases hen : same en en' with
          | false =>
            have GH := Lib.hid (same_neq hen)
            clear hen
            have HE := Lib.hid (same_no (α := List D) (x := [.str nm, .row be, .row mi, .row af, .row rc, .row vr, .row rt, .row bd, .row en]) (y := [.str nm', .row be', .row mi', .row af', .row rc', .row vr', .row rt', .row bd', .row en']) (fun z => GH.out (D.row.inj (congrArg (fun z : List D => nth z 8) z))))
            go_wp2_with fail
            go_ret
            exact ⟨by rw [HE.out]; rfl, R4.out⟩
          | true =>
            have Qen := Lib.hid ((same_iff _ _).1 hen)
            clear hen
            cases hlrc : rc.length == rc'.length with
            | false =>
              have hmrc : (rc.length != rc'.length) = true := by rw [bne, hlrc]; rfl
              have hirc : (((rc.length : Nat) : Int) == ((rc'.length : Nat) : Int)) = false := int_beq_no (by simpa using hlrc)
              have hjrc : (((rc.length : Nat) : Int) != ((rc'.length : Nat) : Int)) = true := by rw [bne, hirc]; rfl
              have GH := Lib.hid (show rc ≠ rc' from fun z => by subst z; simp at hlrc)
              have HE := Lib.hid (same_no (α := List D) (x := [.str nm, .row be, .row mi, .row af, .row rc, .row vr, .row rt, .row bd, .row en]) (y := [.str nm', .row be', .row mi', .row af', .row rc', .row vr', .row rt', .row bd', .row en']) (fun z => GH.out (D.row.inj (congrArg (fun z : List D => nth z 4) z))))
              go_wp2_with fail
              go_ret
              exact ⟨by rw [HE.out]; rfl, R4.out⟩
            | true =>
              have hmrc : (rc.length != rc'.length) = false := by rw [bne, hlrc]; rfl
              have hirc : (((rc.length : Nat) : Int) == ((rc'.length : Nat) : Int)) = true := int_beq_yes (by simpa using hlrc)
              have hjrc : (((rc.length : Nat) : Int) != ((rc'.length : Nat) : Int)) = false := by rw [bne, hirc]; rfl
              have QLrc := Lib.hid (show rc.length = rc'.length from by simpa using hlrc)
              go_wp2_with fail
              go_loopw [5] (fun i wr => ∃ k : Nat, k ≤ rc.length ∧ i = .int .i64 k ∧ rc.take k = rc'.take k ∧ wr.heap[W.heap.size]? = w4.heap[W.heap.size]? ∧ wr.heap[W.heap.size + 1]? = w4.heap[W.heap.size + 1]? ∧ Below W.heap.size W wr) (fun i _ => rc.length - (intOf i).toNat)
              case atStart => exact ⟨0, Nat.zero_le _, rfl, rfl, rfl, rfl, R4.out⟩
              case round =>
                obtain ⟨k, hk, rfl, htk, ka, kb, hRk⟩ := hrel
                have HT := Lib.hid htk
                have R5 := Lib.hid hRk
                have KA5 := Lib.hid (ka.trans KA4.out)
                have KB5 := Lib.hid (kb.trans KB4.out)
                have HGA := Lib.hid ka
                have HGB := Lib.hid kb
                have cA5 := box_cells KA5.out
                have cB5 := box_cells KB5.out
                clear htk hRk ka kb cA4 cB4
                by_cases hlt : k < rc.length
                · obtain ⟨b, o, vs, ds, hea, hbl, hx, hv, hc⟩ := Arc.out.elem hlt
                  obtain ⟨b', o', vs', ds', hea', hbl', hx', hv', hc'⟩ := Arc'.out.elem (j := k) (by have := QLrc.out; omega)
                  have B0 := HW.out.trans (R5.out.mono HW.out.size)
                  have hbw : b < wr.heap.size := Nat.lt_of_lt_of_le hbl B0.size
                  have hbw' : b' < wr.heap.size := Nat.lt_of_lt_of_le hbl' B0.size
                  have HX := Lib.hid hx
                  have HX' := Lib.hid hx'
                  have SX := Lib.hid (Src.out _ (List.mem_of_getElem? hx))
                  have SX' := Lib.hid (Src'.out _ (List.mem_of_getElem? hx'))
                  have hlt' : k < rc'.length := by have := QLrc.out; omega
                  have hdl : ds.length = 5 := SX.out.ln
                  have hdl' : ds'.length = 5 := SX'.out.ln
                  rw [hdl] at hc
                  rw [hdl'] at hc'
                  have hvl := Lib.hid (hv.len.trans hdl)
                  have hvl' := Lib.hid (hv'.len.trans hdl')
                  have hvo := Lib.hid hv.one
                  have hvo' := Lib.hid hv'.one
                  have HV := Lib.hid hv
                  have HV' := Lib.hid hv'
                  clear hdl hdl' hv hv'
                  rw [hea] at cA5
                  rw [hea'] at cB5
                  have RA := Lib.hid (show ∀ W2, Below wr.heap.size wr W2 → ∀ i, W2.cell? ⟨W.heap.size, i, none⟩ = wr.cell? ⟨W.heap.size, i, none⟩ from fun W2 h i => h.cell (p := ⟨W.heap.size, i, none⟩) (heap_lt KA5.out))
                  have RB := Lib.hid (show ∀ W2, Below wr.heap.size wr W2 → ∀ i, W2.cell? ⟨W.heap.size + 1, i, none⟩ = wr.cell? ⟨W.heap.size + 1, i, none⟩ from fun W2 h i => h.cell (p := ⟨W.heap.size + 1, i, none⟩) (heap_lt KB5.out))
                  clear hx hx' hea hea'
                  go_wp2_with fail
                  refine wp_region_held (S := fun W => Below wr.heap.size wr W) (by kernel_rfl) ?_
                  generalize hwn : ({ wr with drawn := wr.drawn + 1 } : World) = wn
                  have BN : Below wr.heap.size wr wn := by rw [← hwn]; exact ⟨rfl, rfl, rfl, Nat.le_refl _, fun _ _ => rfl⟩
                  clear hwn
                  have C0 := Lib.hid (show ∀ W, Below wr.heap.size wr W → ∀ j v, vs[j]? = some v → W.cell? ⟨b, o + k * 5 + j, none⟩ = some v from fun W BW j v hv => (BW.cell (p := ⟨b, o + k * 5 + j, none⟩) hbw).trans ((B0.cell (p := ⟨b, o + k * 5 + j, none⟩) hbl).trans (hc j v hv)))
                  have C1 := Lib.hid (show ∀ W, Below wr.heap.size wr W → ∀ j v, vs'[j]? = some v → W.cell? ⟨b', o' + k * 5 + j, none⟩ = some v from fun W BW j v hv => (BW.cell (p := ⟨b', o' + k * 5 + j, none⟩) hbw').trans ((B0.cell (p := ⟨b', o' + k * 5 + j, none⟩) hbl').trans (hc' j v hv)))
                  clear hc hc'
                  refine wpAnyH_take (i := 0) (oi := ⟨some 62, .fieldAddr 35 (.tmp 2) 4, 0, "ref.go:342", #[], none⟩) (v := ?v0) rfl (by kernel_rfl) (by kernel_rfl) (by kernel_rfl) (fun _ _ _ h => h) (Or.inl ⟨by rfl, ?hy0⟩) BN ?rest0
                  case hy0 => (intro W2 hSW; have ra := RA.out W2 hSW; have rb := RB.out W2 hSW; go_simp; try with_reducible rfl)
                  simp only [Act.put, List.setIfInBounds_toArray, List.set_cons_zero, List.set_cons_succ]
                  refine wpAnyH_take (i := 1) (oi := ⟨some 63, .load 30 (.tmp 62), 30, "ref.go:342", #[⟨0, .data⟩], none⟩) (v := ?v1) rfl (by kernel_rfl) (by kernel_rfl) (by kernel_rfl) (fun _ _ _ h => h) (Or.inl ⟨by rfl, ?hy1⟩) BN ?rest1
                  case hy1 => (intro W2 hSW; have ra := RA.out W2 hSW; have rb := RB.out W2 hSW; go_simp; try with_reducible rfl)
                  simp only [Act.put, List.setIfInBounds_toArray, List.set_cons_zero, List.set_cons_succ]
                  refine wpAnyH_take (i := 2) (oi := ⟨some 64, .move (.tmp 5), 3, "ref.go:342", #[], none⟩) (v := ?v2) rfl (by kernel_rfl) (by kernel_rfl) (by kernel_rfl) (fun _ _ _ h => h) (Or.inl ⟨by rfl, ?hy2⟩) BN ?rest2
                  case hy2 => (intro W2 hSW; have ra := RA.out W2 hSW; have rb := RB.out W2 hSW; go_simp; try with_reducible rfl)
                  simp only [Act.put, List.setIfInBounds_toArray, List.set_cons_zero, List.set_cons_succ]
                  refine wpAnyH_take (i := 3) (oi := ⟨some 65, .indexAddr 30 (.tmp 63) (.tmp 64), 0, "ref.go:342", #[⟨1, .data⟩, ⟨2, .data⟩], none⟩) (v := ?v3) rfl (by kernel_rfl) (by kernel_rfl) (by kernel_rfl) (fun _ _ _ h => h) (Or.inl ⟨by rfl, ?hy3⟩) BN ?rest3
                  case hy3 => (intro W2 hSW; have ra := RA.out W2 hSW; have rb := RB.out W2 hSW; go_simp; try with_reducible rfl)
                  simp only [Act.put, List.setIfInBounds_toArray, List.set_cons_zero, List.set_cons_succ]
                  refine wpAnyH_take (i := 4) (oi := ⟨some 66, .load 62 (.tmp 65), 62, "ref.go:342", #[⟨3, .data⟩], none⟩) (v := ?v4) rfl (by kernel_rfl) (by kernel_rfl) (by kernel_rfl) (fun _ _ _ h => h) (Or.inl ⟨by rfl, ?hy4⟩) BN ?rest4
                  case hy4 => (intro W2 hSW; refine run_loadT Tryz.isAgg62 Tryz.sizeOf62 (x := .tmp 65) ?_ (b := b) (off := o + k * 5) ?_ hvl.out (C0.out W2 hSW) <;> rfl)
                  simp only [Act.put, List.setIfInBounds_toArray, List.set_cons_zero, List.set_cons_succ]
                  refine wpAnyH_take (i := 5) (oi := ⟨some 67, .fieldAddr 35 (.tmp 3) 4, 0, "ref.go:342", #[{ on := 12, ground := Ground.gcOnly Departure.lateStores }], none⟩) (v := ?v5) rfl (by kernel_rfl) (by kernel_rfl) (by kernel_rfl) (fun _ _ _ h => h) (Or.inl ⟨by rfl, ?hy5⟩) BN ?rest5
                  case hy5 => (intro W2 hSW; have ra := RA.out W2 hSW; have rb := RB.out W2 hSW; go_simp; try with_reducible rfl)
                  simp only [Act.put, List.setIfInBounds_toArray, List.set_cons_zero, List.set_cons_succ]
                  refine wpAnyH_take (i := 6) (oi := ⟨some 68, .load 30 (.tmp 67), 30, "ref.go:342", #[⟨5, .data⟩, { on := 12, ground := Ground.gcOnly Departure.lateStores }], none⟩) (v := ?v6) rfl (by kernel_rfl) (by kernel_rfl) (by kernel_rfl) (fun _ _ _ h => h) (Or.inl ⟨by rfl, ?hy6⟩) BN ?rest6
                  case hy6 => (intro W2 hSW; have ra := RA.out W2 hSW; have rb := RB.out W2 hSW; go_simp; try with_reducible rfl)
                  simp only [Act.put, List.setIfInBounds_toArray, List.set_cons_zero, List.set_cons_succ]
                  refine wpAnyH_take (i := 7) (oi := ⟨some 69, .move (.tmp 5), 3, "ref.go:342", #[{ on := 12, ground := Ground.gcOnly Departure.lateStores }], none⟩) (v := ?v7) rfl (by kernel_rfl) (by kernel_rfl) (by kernel_rfl) (fun _ _ _ h => h) (Or.inl ⟨by rfl, ?hy7⟩) BN ?rest7
                  case hy7 => (intro W2 hSW; have ra := RA.out W2 hSW; have rb := RB.out W2 hSW; go_simp; try with_reducible rfl)
                  simp only [Act.put, List.setIfInBounds_toArray, List.set_cons_zero, List.set_cons_succ]
                  refine wpAnyH_take (i := 8) (oi := ⟨some 70, .indexAddr 30 (.tmp 68) (.tmp 69), 0, "ref.go:342", #[⟨6, .data⟩, ⟨7, .data⟩, { on := 12, ground := Ground.gcOnly Departure.lateStores }], none⟩) (v := ?v8) rfl (by kernel_rfl) (by kernel_rfl) (by kernel_rfl) (fun _ _ _ h => h) (Or.inl ⟨by rfl, ?hy8⟩) BN ?rest8
                  case hy8 => (intro W2 hSW; have ra := RA.out W2 hSW; have rb := RB.out W2 hSW; go_simp; try with_reducible rfl)
                  simp only [Act.put, List.setIfInBounds_toArray, List.set_cons_zero, List.set_cons_succ]
                  refine wpAnyH_take (i := 9) (oi := ⟨some 71, .load 62 (.tmp 70), 62, "ref.go:342", #[⟨8, .data⟩, { on := 12, ground := Ground.gcOnly Departure.lateStores }], none⟩) (v := ?v9) rfl (by kernel_rfl) (by kernel_rfl) (by kernel_rfl) (fun _ _ _ h => h) (Or.inl ⟨by rfl, ?hy9⟩) BN ?rest9
                  case hy9 => (intro W2 hSW; refine run_loadT Tryz.isAgg62 Tryz.sizeOf62 (x := .tmp 70) ?_ (b := b') (off := o' + k * 5) ?_ hvl'.out (C1.out W2 hSW) <;> rfl)
                  simp only [Act.put, List.setIfInBounds_toArray, List.set_cons_zero, List.set_cons_succ]
                  have HBN := Lib.hid BN
                  refine pair_tail (T := 62) (k := 5) (l0 := 66) (l1 := 71) (i8 := 10) (i9 := 11) (i10 := 12) (i11 := 13) (vs := vs) (vs' := vs') ⟨rfl, rfl, rfl, rfl, rfl, rfl, rfl, rfl, rfl, rfl, rfl, rfl, rfl, rfl, rfl, rfl, by kernel_rfl, by kernel_rfl, by kernel_rfl, by kernel_rfl, by kernel_rfl, by kernel_rfl, by kernel_rfl, by kernel_rfl, by kernel_rfl⟩ Tryz.zeroValue62 Tryz.sizeOf62 rfl (by simp) (by simp) ⟨by decide, by decide⟩ ⟨by decide, by decide⟩ rfl rfl hvl.out hvl'.out hvo.out hvo'.out (fun W h => BN.trans (h.mono BN.size)) (fun p p' wb hp hp' kp kp' bb => ?_) 0
                  obtain ⟨m0, m1, rn, fs, re, m0a, m0c, m1a, m1c, fsa, fsc, rea, rec, hds, hvs, am0, am1, irn, afs, are, sm0, sm1, sfs, sre⟩ := HV.out.openC SX.out
                  rw [hvs] at kp
                  have HDS := Lib.hid hds
                  clear hds hvs
                  obtain ⟨m0', m1', rn', fs', re', m0a', m0c', m1a', m1c', fsa', fsc', rea', rec', hds', hvs', am0', am1', irn', afs', are', sm0', sm1', sfs', sre'⟩ := HV'.out.openC SX'.out
                  rw [hvs'] at kp'
                  have HDS' := Lib.hid hds'
                  clear hds' hvs'
                  have GLA := heap_lt KA5.out
                  have GLB := heap_lt KB5.out
                  have RR0 := Lib.hid (HBN.out.trans (bb.mono HBN.out.size))
                  have R0 := Lib.hid (R5.out.trans ((HBN.out.trans (bb.mono HBN.out.size)).mono R5.out.size))
                  have KA0 := Lib.hid kp
                  have KB0 := Lib.hid kp'
                  have cA0 := box_cells kp
                  have cB0 := box_cells kp'
                  clear bb kp kp'
                  have Am0 := Lib.hid am0
                  have Am0' := Lib.hid am0'
                  have Am1 := Lib.hid am1
                  have Am1' := Lib.hid am1'
                  have Afs := Lib.hid afs
                  have Afs' := Lib.hid afs'
                  have Are := Lib.hid are
                  have Are' := Lib.hid are'
                  have Pre := Lib.hid (texts_rows w0 re re' sre sre')
                  have PM := Lib.hid (fun W hW => refMarks_any w0 _ _ _ _ _ _ _ _ m0 m1 m0' m1' am0 am1 am0' am1' sm0 sm1 sm0' sm1' W hW)
                  have Sfs := Lib.hid sfs
                  have Sfs' := Lib.hid sfs'
                  have lefs := afs.len_le
                  have lefs' := afs'.len_le
                  clear am0 am1 irn afs are sm0 sm1 sfs sre am0' am1' irn' afs' are' sm0' sm1' sfs' sre'
                  go_wp2_with fail
                  have Z1 := HW.out.trans (R0.out.mono HW.out.size)
                  refine (PM.out _ Z1).mono ?_
                  rintro e w1 ⟨rfl, b1⟩
                  have RR1 := Lib.hid (RR0.out.trans (b1.mono RR0.out.size))
                  have R1 := Lib.hid (R0.out.trans (b1.mono R0.out.size))
                  have KA1 := Lib.hid ((b1.block _ (heap_lt KA0.out)).trans KA0.out)
                  have KB1 := Lib.hid ((b1.block _ (heap_lt KB0.out)).trans KB0.out)
                  have cA1 := box_cells KA1.out
                  have cB1 := box_cells KB1.out
                  clear b1 Z1 cA0 cB0
                  cases hM : same (α := List D) [.row m0, .row m1] [.row m0', .row m1'] with
                  | false =>
                    have GH := Lib.hid (same_neq hM)
                    clear hM
                    have HE := Lib.hid (same_no (α := List D) (x := [.str nm, .row be, .row mi, .row af, .row rc, .row vr, .row rt, .row bd, .row en]) (y := [.str nm', .row be', .row mi', .row af', .row rc', .row vr', .row rt', .row bd', .row en']) (fun z => (same_neq (same_miss HX.out HX'.out (by rw [HDS.out, HDS'.out]; exact same_no (α := List D) (x := [.row m0, .row m1, .str rn, .row fs, .row re]) (y := [.row m0', .row m1', .str rn', .row fs', .row re']) (fun z => GH.out (congrArg (fun z : List D => (z.drop 0).take 2) z))))) (D.row.inj (congrArg (fun z : List D => nth z 4) z))))
                    go_wp2_with fail
                    go_ret
                    exact ⟨by rw [HE.out]; rfl, R1.out⟩
                  | true =>
                    have QM := Lib.hid ((same_iff _ _).1 hM)
                    clear hM
                    cases hrn : rn.toList == rn'.toList with
                    | false =>
                      have hnrn : (rn.toList != rn'.toList) = true := by rw [bne, hrn]; rfl
                      have GH := Lib.hid (show rn ≠ rn' from (fun z => by subst z; simp at hrn))
                      have HE := Lib.hid (same_no (α := List D) (x := [.str nm, .row be, .row mi, .row af, .row rc, .row vr, .row rt, .row bd, .row en]) (y := [.str nm', .row be', .row mi', .row af', .row rc', .row vr', .row rt', .row bd', .row en']) (fun z => (same_neq (same_miss HX.out HX'.out (by rw [HDS.out, HDS'.out]; exact same_no (α := List D) (x := [.row m0, .row m1, .str rn, .row fs, .row re]) (y := [.row m0', .row m1', .str rn', .row fs', .row re']) (fun z => GH.out (D.str.inj (congrArg (fun z : List D => nth z 2) z)))))) (D.row.inj (congrArg (fun z : List D => nth z 4) z))))
                      go_wp2_with fail
                      go_ret
                      exact ⟨by rw [HE.out]; rfl, R1.out⟩
                    | true =>
                      have hnrn : (rn.toList != rn'.toList) = false := by rw [bne, hrn]; rfl
                      have Qrn := Lib.hid (show rn = rn' from ((ba_eq_iff _ _).1 hrn))
                      go_wp2_with fail
                      have Z2 := HW.out.trans (R1.out.mono HW.out.size)
                      refine (Pre.out _ _ _ _ _ _ Are.out Are'.out _ Z2).mono ?_
                      rintro e w2 ⟨rfl, b2⟩
                      have RR2 := Lib.hid (RR1.out.trans (b2.mono RR1.out.size))
                      have R2 := Lib.hid (R1.out.trans (b2.mono R1.out.size))
                      have KA2 := Lib.hid ((b2.block _ (heap_lt KA1.out)).trans KA1.out)
                      have KB2 := Lib.hid ((b2.block _ (heap_lt KB1.out)).trans KB1.out)
                      have cA2 := box_cells KA2.out
                      have cB2 := box_cells KB2.out
                      clear b2 Z2 cA1 cB1
                      cases hre : same re re' with
                      | false =>
                        have GH := Lib.hid (same_neq hre)
                        clear hre
                        have HE := Lib.hid (same_no (α := List D) (x := [.str nm, .row be, .row mi, .row af, .row rc, .row vr, .row rt, .row bd, .row en]) (y := [.str nm', .row be', .row mi', .row af', .row rc', .row vr', .row rt', .row bd', .row en']) (fun z => (same_neq (same_miss HX.out HX'.out (by rw [HDS.out, HDS'.out]; exact same_no (α := List D) (x := [.row m0, .row m1, .str rn, .row fs, .row re]) (y := [.row m0', .row m1', .str rn', .row fs', .row re']) (fun z => GH.out (D.row.inj (congrArg (fun z : List D => nth z 4) z)))))) (D.row.inj (congrArg (fun z : List D => nth z 4) z))))
                        go_wp2_with fail
                        go_ret
                        exact ⟨by rw [HE.out]; rfl, R2.out⟩
                      | true =>
                        have Qre := Lib.hid ((same_iff _ _).1 hre)
                        clear hre
                        cases hlfs : fs.length == fs'.length with
                        | false =>
                          have hmfs : (fs.length != fs'.length) = true := by rw [bne, hlfs]; rfl
                          have hifs : (((fs.length : Nat) : Int) == ((fs'.length : Nat) : Int)) = false := int_beq_no (by simpa using hlfs)
                          have hjfs : (((fs.length : Nat) : Int) != ((fs'.length : Nat) : Int)) = true := by rw [bne, hifs]; rfl
                          have GH := Lib.hid (show fs ≠ fs' from fun z => by subst z; simp at hlfs)
                          have HE := Lib.hid (same_no (α := List D) (x := [.str nm, .row be, .row mi, .row af, .row rc, .row vr, .row rt, .row bd, .row en]) (y := [.str nm', .row be', .row mi', .row af', .row rc', .row vr', .row rt', .row bd', .row en']) (fun z => (same_neq (same_miss HX.out HX'.out (by rw [HDS.out, HDS'.out]; exact same_no (α := List D) (x := [.row m0, .row m1, .str rn, .row fs, .row re]) (y := [.row m0', .row m1', .str rn', .row fs', .row re']) (fun z => GH.out (D.row.inj (congrArg (fun z : List D => nth z 3) z)))))) (D.row.inj (congrArg (fun z : List D => nth z 4) z))))
                          go_wp2_with fail
                          go_ret
                          exact ⟨by rw [HE.out]; rfl, R2.out⟩
                        | true =>
                          have hmfs : (fs.length != fs'.length) = false := by rw [bne, hlfs]; rfl
                          have hifs : (((fs.length : Nat) : Int) == ((fs'.length : Nat) : Int)) = true := int_beq_yes (by simpa using hlfs)
                          have hjfs : (((fs.length : Nat) : Int) != ((fs'.length : Nat) : Int)) = false := by rw [bne, hifs]; rfl
                          have QLfs := Lib.hid (show fs.length = fs'.length from by simpa using hlfs)
                          obtain ⟨wo, rfl⟩ : ∃ wo, wo = wr := ⟨_, rfl⟩
                          go_wp2_with fail
                          go_loopw [8] (fun i wq => ∃ j : Nat, j ≤ fs.length ∧ i = .int .i64 j ∧ fs.take j = fs'.take j ∧ wq.heap[p]? = w2.heap[p]? ∧ wq.heap[p']? = w2.heap[p']? ∧ Below wo.heap.size wo wq ∧ Below W.heap.size W wq) (fun i _ => fs.length - (intOf i).toNat)
                          case atStart => exact ⟨0, Nat.zero_le _, rfl, rfl, rfl, rfl, RR2.out, R2.out⟩
                          case round =>
                            obtain ⟨j, hj, rfl, htj, ka, kb, hRRj, hRj⟩ := hrel
                            have HTJ := Lib.hid htj
                            have R3 := Lib.hid hRj
                            have RR3 := Lib.hid hRRj
                            have KA3 := Lib.hid (ka.trans KA2.out)
                            have KB3 := Lib.hid (kb.trans KB2.out)
                            have HKA := Lib.hid ka
                            have HKB := Lib.hid kb
                            clear htj hRj hRRj ka kb cA2 cB2
                            by_cases hlj : j < fs.length
                            · obtain ⟨b2, o2, vs2, ds2, hea, hbl2, hx2, hv2, hc2⟩ := Afs.out.elem hlj
                              obtain ⟨b2', o2', vs2', ds2', hea', hbl2', hx2', hv2', hc2'⟩ := Afs'.out.elem (j := j) (by have := QLfs.out; omega)
                              have ra := cells_regrown KA3.out
                              have rb := cells_regrown KB3.out
                              have cA3 := box_cells KA3.out
                              have cB3 := box_cells KB3.out
                              rw [hea] at ra cA3
                              rw [hea'] at rb cB3
                              obtain ⟨m0x, m1x, nmx, kdx, m0ax, m0cx, m1ax, m1cx, hds2, rfl, am0x, am1x, _, _, sm0x, sm1x⟩ := hv2.openF (Sfs.out _ (List.mem_of_getElem? hx2))
                              obtain ⟨m0y, m1y, nmy, kdy, m0ay, m0cy, m1ay, m1cy, hds2', rfl, am0y, am1y, _, _, sm0y, sm1y⟩ := hv2'.openF (Sfs'.out _ (List.mem_of_getElem? hx2'))
                              have hdl2 : ds2.length = 4 := by rw [hds2]; rfl
                              have hdl2' : ds2'.length = 4 := by rw [hds2']; rfl
                              rw [hdl2] at hc2
                              rw [hdl2'] at hc2'
                              have B2 := HW.out.trans (R3.out.mono HW.out.size)
                              have d0 := cell_regrown ((B2.cell (p := ⟨b2, o2 + j * 4, none⟩) hbl2).trans (hc2 0 _ rfl))
                              have d1 := cell_regrown ((B2.cell (p := ⟨b2, o2 + j * 4 + 1, none⟩) hbl2).trans (hc2 1 _ rfl))
                              have d2 := cell_regrown ((B2.cell (p := ⟨b2, o2 + j * 4 + 2, none⟩) hbl2).trans (hc2 2 _ rfl))
                              have d3 := cell_regrown ((B2.cell (p := ⟨b2, o2 + j * 4 + 3, none⟩) hbl2).trans (hc2 3 _ rfl))
                              have d0' := cell_regrown ((B2.cell (p := ⟨b2', o2' + j * 4, none⟩) hbl2').trans (hc2' 0 _ rfl))
                              have d1' := cell_regrown ((B2.cell (p := ⟨b2', o2' + j * 4 + 1, none⟩) hbl2').trans (hc2' 1 _ rfl))
                              have d2' := cell_regrown ((B2.cell (p := ⟨b2', o2' + j * 4 + 2, none⟩) hbl2').trans (hc2' 2 _ rfl))
                              have d3' := cell_regrown ((B2.cell (p := ⟨b2', o2' + j * 4 + 3, none⟩) hbl2').trans (hc2' 3 _ rfl))
                              have hfn := fun W hW => refMarks_any w0 _ _ _ _ _ _ _ _ m0x m1x m0y m1y am0x am1x am0y am1y sm0x sm1x sm0y sm1y W hW
                              have HX2 := Lib.hid hx2
                              have HX2' := Lib.hid hx2'
                              have HD2 := Lib.hid hds2
                              have HD2' := Lib.hid hds2'
                              have hjl' : j < fs'.length := by have := QLfs.out; omega
                              clear hx2 hx2' hds2 hds2' hc2 hc2' hv2 hv2' hea hea' hdl2 hdl2'
                              cases hM : same (α := List D) [.row m0x, .row m1x] [.row m0y, .row m1y] with
                              | false =>
                                have HM := Lib.hid hM
                                have GH := Lib.hid (same_neq (same_miss HX2.out HX2'.out (by rw [HD2.out, HD2'.out]; exact same_no (α := List D) (x := [.row m0x, .row m1x, .str nmx, .int kdx]) (y := [.row m0y, .row m1y, .str nmy, .int kdy]) (fun z => same_neq HM.out (congrArg (fun z : List D => (z.drop 0).take 2) z)))))
                                have HE := Lib.hid (same_no (α := List D) (x := [.str nm, .row be, .row mi, .row af, .row rc, .row vr, .row rt, .row bd, .row en]) (y := [.str nm', .row be', .row mi', .row af', .row rc', .row vr', .row rt', .row bd', .row en']) (fun z => (same_neq (same_miss HX.out HX'.out (by rw [HDS.out, HDS'.out]; exact same_no (α := List D) (x := [.row m0, .row m1, .str rn, .row fs, .row re]) (y := [.row m0', .row m1', .str rn', .row fs', .row re']) (fun z => GH.out (D.row.inj (congrArg (fun z : List D => nth z 3) z)))))) (D.row.inj (congrArg (fun z : List D => nth z 4) z))))
                                clear hM
                                have cF : ∀ d os, Calls Tryz.prog 44 #[.agg #[.slice m0ax m0x.length m0cx, .slice m1ax m1x.length m1cx], .agg #[.slice m0ay m0y.length m0cy, .slice m1ay m1y.length m1cy]] (grow (redrawn wr d) os) fun e w'' => e = .returned (.bool false) ∧ ∃ p : Regrown, w'' = grow (redrawn wr p.d) p.os := fun d os => by
                                  have := hfn _ (B2.trans ((below_regrown wr d os).mono B2.size))
                                  unfold EqPost at this
                                  rw [HM.out] at this
                                  exact Calls.regrown_of this
                                have CF := Lib.hid cF
                                clear cF hfn B2
                                go_wp2_with fail
                                refine wp_region_quiet_below (by kernel_rfl) (by kernel_rfl) ?_
                                repeat (first | go_big_quiet_step ((with_reducible exact CF.out _ _)) | quiet_step ((with_reducible exact CF.out _ _)))
                                refine wpQuiet_nil ?_
                                intro _ hw'
                                obtain ⟨⟨dq, osq⟩, hw''⟩ := hw'
                                subst hw''
                                have RQ := Lib.hid (R3.out.trans ((below_regrown wr dq osq).mono R3.out.size))
                                have RRQ := Lib.hid (RR3.out.trans ((below_regrown wr dq osq).mono RR3.out.size))
                                have KAQ := Lib.hid (((below_regrown wr dq osq).block _ (heap_lt KA3.out)).trans HKA.out)
                                have KBQ := Lib.hid (((below_regrown wr dq osq).block _ (heap_lt KB3.out)).trans HKB.out)
                                go_wp2_with fail
                                go_ret
                                exact ⟨by rw [HE.out]; rfl, RQ.out⟩
                              | true =>
                                have HM := Lib.hid hM
                                clear hM
                                cases hnx : nmx.toList == nmy.toList with
                                | false =>
                                  have hny : (nmx.toList != nmy.toList) = true := by rw [bne, hnx]; rfl
                                  have GH := Lib.hid (same_neq (same_miss HX2.out HX2'.out (by rw [HD2.out, HD2'.out]; exact same_no (α := List D) (x := [.row m0x, .row m1x, .str nmx, .int kdx]) (y := [.row m0y, .row m1y, .str nmy, .int kdy]) (fun z => (fun e => by subst e; simp at hnx) (D.str.inj (congrArg (fun z : List D => nth z 2) z))))))
                                  have HE := Lib.hid (same_no (α := List D) (x := [.str nm, .row be, .row mi, .row af, .row rc, .row vr, .row rt, .row bd, .row en]) (y := [.str nm', .row be', .row mi', .row af', .row rc', .row vr', .row rt', .row bd', .row en']) (fun z => (same_neq (same_miss HX.out HX'.out (by rw [HDS.out, HDS'.out]; exact same_no (α := List D) (x := [.row m0, .row m1, .str rn, .row fs, .row re]) (y := [.row m0', .row m1', .str rn', .row fs', .row re']) (fun z => GH.out (D.row.inj (congrArg (fun z : List D => nth z 3) z)))))) (D.row.inj (congrArg (fun z : List D => nth z 4) z))))
                                  have cF : ∀ d os, Calls Tryz.prog 44 #[.agg #[.slice m0ax m0x.length m0cx, .slice m1ax m1x.length m1cx], .agg #[.slice m0ay m0y.length m0cy, .slice m1ay m1y.length m1cy]] (grow (redrawn wr d) os) fun e w'' => e = .returned (.bool true) ∧ ∃ p : Regrown, w'' = grow (redrawn wr p.d) p.os := fun d os => by
                                    have := hfn _ (B2.trans ((below_regrown wr d os).mono B2.size))
                                    unfold EqPost at this
                                    rw [HM.out] at this
                                    exact Calls.regrown_of this
                                  have CF := Lib.hid cF
                                  clear cF hfn B2
                                  go_wp2_with fail
                                  refine wp_region_quiet_below (by kernel_rfl) (by kernel_rfl) ?_
                                  repeat (first | go_big_quiet_step ((with_reducible exact CF.out _ _)) | quiet_step ((with_reducible exact CF.out _ _)))
                                  refine wpQuiet_nil ?_
                                  intro _ hw'
                                  obtain ⟨⟨dq, osq⟩, hw''⟩ := hw'
                                  subst hw''
                                  have RQ := Lib.hid (R3.out.trans ((below_regrown wr dq osq).mono R3.out.size))
                                  have RRQ := Lib.hid (RR3.out.trans ((below_regrown wr dq osq).mono RR3.out.size))
                                  have KAQ := Lib.hid (((below_regrown wr dq osq).block _ (heap_lt KA3.out)).trans HKA.out)
                                  have KBQ := Lib.hid (((below_regrown wr dq osq).block _ (heap_lt KB3.out)).trans HKB.out)
                                  go_wp2_with fail
                                  go_ret
                                  exact ⟨by rw [HE.out]; rfl, RQ.out⟩
                                | true =>
                                  have hny : (nmx.toList != nmy.toList) = false := by rw [bne, hnx]; rfl
                                  cases hkx : kdx == kdy with
                                  | false =>
                                    have hky : (kdx != kdy) = true := by rw [bne, hkx]; rfl
                                    have GH := Lib.hid (same_neq (same_miss HX2.out HX2'.out (by rw [HD2.out, HD2'.out]; exact same_no (α := List D) (x := [.row m0x, .row m1x, .str nmx, .int kdx]) (y := [.row m0y, .row m1y, .str nmy, .int kdy]) (fun z => (fun e => by subst e; simp at hkx) (D.int.inj (congrArg (fun z : List D => nth z 3) z))))))
                                    have HE := Lib.hid (same_no (α := List D) (x := [.str nm, .row be, .row mi, .row af, .row rc, .row vr, .row rt, .row bd, .row en]) (y := [.str nm', .row be', .row mi', .row af', .row rc', .row vr', .row rt', .row bd', .row en']) (fun z => (same_neq (same_miss HX.out HX'.out (by rw [HDS.out, HDS'.out]; exact same_no (α := List D) (x := [.row m0, .row m1, .str rn, .row fs, .row re]) (y := [.row m0', .row m1', .str rn', .row fs', .row re']) (fun z => GH.out (D.row.inj (congrArg (fun z : List D => nth z 3) z)))))) (D.row.inj (congrArg (fun z : List D => nth z 4) z))))
                                    have cF : ∀ d os, Calls Tryz.prog 44 #[.agg #[.slice m0ax m0x.length m0cx, .slice m1ax m1x.length m1cx], .agg #[.slice m0ay m0y.length m0cy, .slice m1ay m1y.length m1cy]] (grow (redrawn wr d) os) fun e w'' => e = .returned (.bool true) ∧ ∃ p : Regrown, w'' = grow (redrawn wr p.d) p.os := fun d os => by
                                      have := hfn _ (B2.trans ((below_regrown wr d os).mono B2.size))
                                      unfold EqPost at this
                                      rw [HM.out] at this
                                      exact Calls.regrown_of this
                                    have CF := Lib.hid cF
                                    clear cF hfn B2
                                    go_wp2_with fail
                                    refine wp_region_quiet_below (by kernel_rfl) (by kernel_rfl) ?_
                                    repeat (first | go_big_quiet_step ((with_reducible exact CF.out _ _)) | quiet_step ((with_reducible exact CF.out _ _)))
                                    refine wpQuiet_nil ?_
                                    intro _ hw'
                                    obtain ⟨⟨dq, osq⟩, hw''⟩ := hw'
                                    subst hw''
                                    have RQ := Lib.hid (R3.out.trans ((below_regrown wr dq osq).mono R3.out.size))
                                    have RRQ := Lib.hid (RR3.out.trans ((below_regrown wr dq osq).mono RR3.out.size))
                                    have KAQ := Lib.hid (((below_regrown wr dq osq).block _ (heap_lt KA3.out)).trans HKA.out)
                                    have KBQ := Lib.hid (((below_regrown wr dq osq).block _ (heap_lt KB3.out)).trans HKB.out)
                                    go_wp2_with fail
                                    go_ret
                                    exact ⟨by rw [HE.out]; rfl, RQ.out⟩
                                  | true =>
                                    have hky : (kdx != kdy) = false := by rw [bne, hkx]; rfl
                                    have HE2 := Lib.hid (show ds2 = ds2' by
                                      rw [HD2.out, HD2'.out]
                                      obtain ⟨rfl, rfl⟩ : m0x = m0y ∧ m1x = m1y := by simpa using (same_iff _ _).1 HM.out
                                      obtain rfl := (ba_eq_iff _ _).1 hnx
                                      obtain rfl : kdx = kdy := by simpa using hkx
                                      rfl)
                                    have cF : ∀ d os, Calls Tryz.prog 44 #[.agg #[.slice m0ax m0x.length m0cx, .slice m1ax m1x.length m1cx], .agg #[.slice m0ay m0y.length m0cy, .slice m1ay m1y.length m1cy]] (grow (redrawn wr d) os) fun e w'' => e = .returned (.bool true) ∧ ∃ p : Regrown, w'' = grow (redrawn wr p.d) p.os := fun d os => by
                                      have := hfn _ (B2.trans ((below_regrown wr d os).mono B2.size))
                                      unfold EqPost at this
                                      rw [HM.out] at this
                                      exact Calls.regrown_of this
                                    have CF := Lib.hid cF
                                    clear cF hfn B2
                                    go_wp2_with fail
                                    refine wp_region_quiet_below (by kernel_rfl) (by kernel_rfl) ?_
                                    repeat (first | go_big_quiet_step ((with_reducible exact CF.out _ _)) | quiet_step ((with_reducible exact CF.out _ _)))
                                    refine wpQuiet_nil ?_
                                    intro _ hw'
                                    obtain ⟨⟨dq, osq⟩, hw''⟩ := hw'
                                    subst hw''
                                    have RQ := Lib.hid (R3.out.trans ((below_regrown wr dq osq).mono R3.out.size))
                                    have RRQ := Lib.hid (RR3.out.trans ((below_regrown wr dq osq).mono RR3.out.size))
                                    have KAQ := Lib.hid (((below_regrown wr dq osq).block _ (heap_lt KA3.out)).trans HKA.out)
                                    have KBQ := Lib.hid (((below_regrown wr dq osq).block _ (heap_lt KB3.out)).trans HKB.out)
                                    go_wp2_with fail
                                    go_roundw
                                    case rel => exact ⟨j + 1, by omega, by go_num, take_same_succ HX2.out (HE2.out ▸ HX2'.out) HTJ.out, KAQ.out, KBQ.out, RRQ.out, RQ.out⟩
                                    case measure => simp [intOf]; omega
                            · have Qfs := Lib.hid (show fs = fs' by
                                have h1 := HTJ.out
                                rw [List.take_of_length_le (by omega), List.take_of_length_le (by have := QLfs.out; omega)] at h1
                                exact h1)
                              obtain rfl : j = fs.length := by omega
                              have cA3 := box_cells KA3.out
                              have cB3 := box_cells KB3.out
                              have HE := Lib.hid (show ds = ds' by
                                rw [HDS.out, HDS'.out]
                                obtain ⟨rfl, rfl⟩ : m0 = m0' ∧ m1 = m1' := by simpa using QM.out
                                obtain rfl := Qrn.out
                                obtain rfl := Qre.out
                                obtain rfl := Qfs.out
                                rfl)
                              have PGA := Lib.hid ((RR3.out.block _ GLA).trans HGA.out)
                              have PGB := Lib.hid ((RR3.out.block _ GLB).trans HGB.out)
                              go_wp2_with fail
                              go_roundw
                              case rel => exact ⟨k + 1, by omega, by go_num, take_same_succ HX.out (HE.out ▸ HX'.out) HT.out, PGA.out, PGB.out, R3.out⟩
                              case measure => simp [intOf]; omega
                · have Qrc := Lib.hid (show rc = rc' by
                    have h1 := HT.out
                    rw [List.take_of_length_le (by omega), List.take_of_length_le (by have := QLrc.out; omega)] at h1
                    exact h1)
                  obtain rfl : k = rc.length := by omega
                  go_wp2_with fail
                  have Z6 := HW.out.trans (R5.out.mono HW.out.size)
                  refine (Pvr.out _ _ _ _ _ _ Avr.out Avr'.out _ Z6).mono ?_
                  rintro e w6 ⟨rfl, b6⟩
                  have R6 := Lib.hid (R5.out.trans (b6.mono R5.out.size))
                  have KA6 := Lib.hid ((b6.block _ (heap_lt KA5.out)).trans KA5.out)
                  have KB6 := Lib.hid ((b6.block _ (heap_lt KB5.out)).trans KB5.out)
                  have cA6 := box_cells KA6.out
                  have cB6 := box_cells KB6.out
                  clear b6 Z6 cA5 cB5
                  cases hvr : same vr vr' with
                  | false =>
                    have GH := Lib.hid (same_neq hvr)
                    clear hvr
                    have HE := Lib.hid (same_no (α := List D) (x := [.str nm, .row be, .row mi, .row af, .row rc, .row vr, .row rt, .row bd, .row en]) (y := [.str nm', .row be', .row mi', .row af', .row rc', .row vr', .row rt', .row bd', .row en']) (fun z => GH.out (D.row.inj (congrArg (fun z : List D => nth z 5) z))))
                    go_wp2_with fail
                    go_ret
                    exact ⟨by rw [HE.out]; rfl, R6.out⟩
                  | true =>
                    have Qvr := Lib.hid ((same_iff _ _).1 hvr)
                    clear hvr
                    go_wp2_with fail
                    have Z7 := HW.out.trans (R6.out.mono HW.out.size)
                    refine (Prt.out _ _ _ _ _ _ Art.out Art'.out _ Z7).mono ?_
                    rintro e w7 ⟨rfl, b7⟩
                    have R7 := Lib.hid (R6.out.trans (b7.mono R6.out.size))
                    have KA7 := Lib.hid ((b7.block _ (heap_lt KA6.out)).trans KA6.out)
                    have KB7 := Lib.hid ((b7.block _ (heap_lt KB6.out)).trans KB6.out)
                    have cA7 := box_cells KA7.out
                    have cB7 := box_cells KB7.out
                    clear b7 Z7 cA6 cB6
                    cases hrt : same rt rt' with
                    | false =>
                      have GH := Lib.hid (same_neq hrt)
                      clear hrt
                      have HE := Lib.hid (same_no (α := List D) (x := [.str nm, .row be, .row mi, .row af, .row rc, .row vr, .row rt, .row bd, .row en]) (y := [.str nm', .row be', .row mi', .row af', .row rc', .row vr', .row rt', .row bd', .row en']) (fun z => GH.out (D.row.inj (congrArg (fun z : List D => nth z 6) z))))
                      go_wp2_with fail
                      go_ret
                      exact ⟨by rw [HE.out]; rfl, R7.out⟩
                    | true =>
                      have Qrt := Lib.hid ((same_iff _ _).1 hrt)
                      clear hrt
                      go_wp2_with fail
                      have Z8 := HW.out.trans (R7.out.mono HW.out.size)
                      refine (Pbd.out _ _ _ _ _ _ Abd.out Abd'.out _ Z8).mono ?_
                      rintro e w8 ⟨rfl, b8⟩
                      have R8 := Lib.hid (R7.out.trans (b8.mono R7.out.size))
                      have KA8 := Lib.hid ((b8.block _ (heap_lt KA7.out)).trans KA7.out)
                      have KB8 := Lib.hid ((b8.block _ (heap_lt KB7.out)).trans KB7.out)
                      have cA8 := box_cells KA8.out
                      have cB8 := box_cells KB8.out
                      clear b8 Z8 cA7 cB7
                      cases hbd : same bd bd' with
                      | false =>
                        have GH := Lib.hid (same_neq hbd)
                        clear hbd
                        have HE := Lib.hid (same_no (α := List D) (x := [.str nm, .row be, .row mi, .row af, .row rc, .row vr, .row rt, .row bd, .row en]) (y := [.str nm', .row be', .row mi', .row af', .row rc', .row vr', .row rt', .row bd', .row en']) (fun z => GH.out (D.row.inj (congrArg (fun z : List D => nth z 7) z))))
                        go_wp2_with fail
                        go_ret
                        exact ⟨by rw [HE.out]; rfl, R8.out⟩
                      | true =>
                        have Qbd := Lib.hid ((same_iff _ _).1 hbd)
                        clear hbd
                        have E := Lib.hid (show same (α := List D) [.str nm, .row be, .row mi, .row af, .row rc, .row vr, .row rt, .row bd, .row en] [.str nm', .row be', .row mi', .row af', .row rc', .row vr', .row rt', .row bd', .row en'] = true by
                          obtain rfl := Qnm.out
                          obtain rfl := Qbe.out
                          obtain rfl := Qmi.out
                          obtain rfl := Qaf.out
                          obtain rfl := Qrc.out
                          obtain rfl := Qvr.out
                          obtain rfl := Qrt.out
                          obtain rfl := Qbd.out
                          obtain rfl := Qen.out
                          exact same_refl _)
                        go_wp2_with fail
                        go_ret
                        exact ⟨by rw [E.out]; rfl, R8.out⟩
end Go.Proofs.YtciijpahjjoppaaGreat
end
