/-
  The reference's comparisons: walked.
-/
import Derived.Test.YtciijpahjjoppaaGreatRss
import Derived.Test.YtciijpahjjoppaaGreatRsv
import Derived.Test.YtciijpahjjoppaaGreatChk
namespace Go.Proofs.YtciijpahjjoppaaGreat
open Go.RowKit Go.Deep Go.Sort
set_option maxRecDepth 100000 in
set_option maxHeartbeats 4000000 in
theorem refRoutines_step (w0 : World) (l l' : List (List D)) (hs : ∀ x ∈ l, ShR x) (hs' : ∀ x ∈ l', ShR x) (hf : ∀ m m', (∃ x ∈ l, D.row m ∈ x) → (∀ z ∈ m, ShR z) → (∀ z ∈ m', ShR z) → RowsEq w0 46 m m') : RowsEq w0 46 l l' := by
  intro a a' len len' cap cap' hA hA' W hW
  have HF := Lib.hid hf
  have HA := Lib.hid hA
  have HA' := Lib.hid hA'
  have HS := Lib.hid hs
  have HS' := Lib.hid hs'
  have HW := Lib.hid hW
  have hle := hA.len_le
  have hle' := hA'.len_le
  have HL := Lib.hid hA.len_eq.1
  have HL' := Lib.hid hA'.len_eq.1
  clear hA hA' hs hs' hW hf
  by_cases hn : len = len'
  · subst hn
    go_enter Tryz.func46, Tryz.ntmps46
    go_wp2_with fail
    go_loopw [5] (fun i wr => ∃ k : Nat, k ≤ len ∧ i = .int .i64 k ∧ l.take k = l'.take k ∧ Below W.heap.size W wr) (fun i _ => len - (intOf i).toNat)
    case atStart => exact ⟨0, Nat.zero_le _, rfl, rfl, Below.refl _ _⟩
    case round =>
      obtain ⟨k, hk, rfl, ht, hb⟩ := hrel
      have HT := Lib.hid ht
      have HB := Lib.hid hb
      clear ht hb
      by_cases hlt : k < len
      · obtain ⟨b, o, vs, ds, rfl, hbl, hx, hv, hc⟩ := HA.out.elem hlt
        obtain ⟨b', o', vs', ds', rfl, hbl', hx', hv', hc'⟩ := HA'.out.elem hlt
        have B0 := HW.out.trans (HB.out.mono HW.out.size)
        have hbw : b < wr.heap.size := Nat.lt_of_lt_of_le hbl B0.size
        have hbw' : b' < wr.heap.size := Nat.lt_of_lt_of_le hbl' B0.size
        have HX := Lib.hid hx
        have HX' := Lib.hid hx'
        have SX := Lib.hid (HS.out _ (List.mem_of_getElem? hx))
        have SX' := Lib.hid (HS'.out _ (List.mem_of_getElem? hx'))
        have hdl : ds.length = 9 := SX.out.ln
        have hdl' : ds'.length = 9 := SX'.out.ln
        rw [hdl] at hc
        rw [hdl'] at hc'
        have hvl := Lib.hid (hv.len.trans hdl)
        have hvl' := Lib.hid (hv'.len.trans hdl')
        have hvo := Lib.hid hv.one
        have hvo' := Lib.hid hv'.one
        have HV := Lib.hid hv
        have HV' := Lib.hid hv'
        clear hdl hdl' hv hv'
        clear hx hx'
        go_wp2_with fail
        refine wp_region_held (S := fun W => Below wr.heap.size wr W) (by kernel_rfl) ?_
        generalize hwn : ({ wr with drawn := wr.drawn + 1 } : World) = wn
        have BN : Below wr.heap.size wr wn := by rw [← hwn]; exact ⟨rfl, rfl, rfl, Nat.le_refl _, fun _ _ => rfl⟩
        clear hwn
        have C0 := Lib.hid (show ∀ W, Below wr.heap.size wr W → ∀ j v, vs[j]? = some v → W.cell? ⟨b, o + k * 9 + j, none⟩ = some v from fun W BW j v hv => (BW.cell (p := ⟨b, o + k * 9 + j, none⟩) hbw).trans ((B0.cell (p := ⟨b, o + k * 9 + j, none⟩) hbl).trans (hc j v hv)))
        have C1 := Lib.hid (show ∀ W, Below wr.heap.size wr W → ∀ j v, vs'[j]? = some v → W.cell? ⟨b', o' + k * 9 + j, none⟩ = some v from fun W BW j v hv => (BW.cell (p := ⟨b', o' + k * 9 + j, none⟩) hbw').trans ((B0.cell (p := ⟨b', o' + k * 9 + j, none⟩) hbl').trans (hc' j v hv)))
        clear hc hc'
        refine wpAnyH_take (i := 0) (oi := { dst := some 20, op := Op.move (Operand.tmp 0), type := 32, pos := "ref.go:320", after := #[], guard := none }) (v := ?v0) rfl (by kernel_rfl) (by kernel_rfl) (by kernel_rfl) (fun _ _ _ h => h) (Or.inl ⟨by rfl, ?hy0⟩) BN ?rest0
        case hy0 => (intro W hSW; go_simp; try with_reducible rfl)
        simp only [Act.put, List.setIfInBounds_toArray, List.set_cons_zero, List.set_cons_succ]
        refine wpAnyH_take (i := 1) (oi := { dst := some 21, op := Op.move (Operand.tmp 5), type := 3, pos := "ref.go:320", after := #[], guard := none }) (v := ?v1) rfl (by kernel_rfl) (by kernel_rfl) (by kernel_rfl) (fun _ _ _ h => h) (Or.inl ⟨by rfl, ?hy1⟩) BN ?rest1
        case hy1 => (intro W hSW; go_simp; try with_reducible rfl)
        simp only [Act.put, List.setIfInBounds_toArray, List.set_cons_zero, List.set_cons_succ]
        refine wpAnyH_take (i := 2) (oi := { dst := some 22, op := Op.indexAddr 32 (Operand.tmp 20) (Operand.tmp 21), type := 0, pos := "ref.go:320", after := #[{ on := 0, ground := Ground.data }, { on := 1, ground := Ground.data }], guard := none }) (v := ?v2) rfl (by kernel_rfl) (by kernel_rfl) (by kernel_rfl) (fun _ _ _ h => h) (Or.inl ⟨by rfl, ?hy2⟩) BN ?rest2
        case hy2 => (intro W hSW; go_simp; try with_reducible rfl)
        simp only [Act.put, List.setIfInBounds_toArray, List.set_cons_zero, List.set_cons_succ]
        refine wpAnyH_take (i := 3) (oi := { dst := some 23, op := Op.load 80 (Operand.tmp 22), type := 80, pos := "ref.go:320", after := #[{ on := 2, ground := Ground.data }], guard := none }) (v := ?v3) rfl (by kernel_rfl) (by kernel_rfl) (by kernel_rfl) (fun _ _ _ h => h) (Or.inl ⟨by rfl, ?hy3⟩) BN ?rest3
        case hy3 => (intro W hSW; refine run_loadT Tryz.isAgg80 Tryz.sizeOf80 (x := .tmp 22) ?_ (b := b) (off := o + k * 9) ?_ hvl.out (C0.out W hSW) <;> rfl)
        simp only [Act.put, List.setIfInBounds_toArray, List.set_cons_zero, List.set_cons_succ]
        refine wpAnyH_take (i := 4) (oi := { dst := some 24, op := Op.move (Operand.tmp 1), type := 32, pos := "ref.go:320", after := #[{ on := 10, ground := Ground.gcOnly Departure.lateStores }], guard := none }) (v := ?v4) rfl (by kernel_rfl) (by kernel_rfl) (by kernel_rfl) (fun _ _ _ h => h) (Or.inl ⟨by rfl, ?hy4⟩) BN ?rest4
        case hy4 => (intro W hSW; go_simp; try with_reducible rfl)
        simp only [Act.put, List.setIfInBounds_toArray, List.set_cons_zero, List.set_cons_succ]
        refine wpAnyH_take (i := 5) (oi := { dst := some 25, op := Op.move (Operand.tmp 5), type := 3, pos := "ref.go:320", after := #[{ on := 10, ground := Ground.gcOnly Departure.lateStores }], guard := none }) (v := ?v5) rfl (by kernel_rfl) (by kernel_rfl) (by kernel_rfl) (fun _ _ _ h => h) (Or.inl ⟨by rfl, ?hy5⟩) BN ?rest5
        case hy5 => (intro W hSW; go_simp; try with_reducible rfl)
        simp only [Act.put, List.setIfInBounds_toArray, List.set_cons_zero, List.set_cons_succ]
        refine wpAnyH_take (i := 6) (oi := { dst := some 26, op := Op.indexAddr 32 (Operand.tmp 24) (Operand.tmp 25), type := 0, pos := "ref.go:320", after := #[{ on := 4, ground := Ground.data }, { on := 5, ground := Ground.data }, { on := 10, ground := Ground.gcOnly Departure.lateStores }], guard := none }) (v := ?v6) rfl (by kernel_rfl) (by kernel_rfl) (by kernel_rfl) (fun _ _ _ h => h) (Or.inl ⟨by rfl, ?hy6⟩) BN ?rest6
        case hy6 => (intro W hSW; go_simp; try with_reducible rfl)
        simp only [Act.put, List.setIfInBounds_toArray, List.set_cons_zero, List.set_cons_succ]
        refine wpAnyH_take (i := 7) (oi := { dst := some 27, op := Op.load 80 (Operand.tmp 26), type := 80, pos := "ref.go:320", after := #[{ on := 6, ground := Ground.data }, { on := 10, ground := Ground.gcOnly Departure.lateStores }], guard := none }) (v := ?v7) rfl (by kernel_rfl) (by kernel_rfl) (by kernel_rfl) (fun _ _ _ h => h) (Or.inl ⟨by rfl, ?hy7⟩) BN ?rest7
        case hy7 => (intro W hSW; refine run_loadT Tryz.isAgg80 Tryz.sizeOf80 (x := .tmp 26) ?_ (b := b') (off := o' + k * 9) ?_ hvl'.out (C1.out W hSW) <;> rfl)
        simp only [Act.put, List.setIfInBounds_toArray, List.set_cons_zero, List.set_cons_succ]
        have HBN := Lib.hid BN
        refine pair_tail (T := 80) (k := 9) (l0 := 23) (l1 := 27) (i8 := 8) (i9 := 9) (i10 := 10) (i11 := 11) (vs := vs) (vs' := vs') ⟨rfl, rfl, rfl, rfl, rfl, rfl, rfl, rfl, rfl, rfl, rfl, rfl, rfl, rfl, rfl, rfl, by kernel_rfl, by kernel_rfl, by kernel_rfl, by kernel_rfl, by kernel_rfl, by kernel_rfl, by kernel_rfl, by kernel_rfl, by kernel_rfl⟩ Tryz.zeroValue80 Tryz.sizeOf80 rfl (by simp) (by simp) ⟨by decide, by decide⟩ ⟨by decide, by decide⟩ rfl rfl hvl.out hvl'.out hvo.out hvo'.out (fun W h => BN.trans (h.mono BN.size)) (fun p p' wb hp hp' kp kp' bb => ?_) 0
        obtain ⟨m0, m1, nm, rs, ps, vr, inn, bd, en, m0a, m0c, m1a, m1c, psa, psc, vra, vrc, inna, innc, bda, bdc, ena, enc, hds, hvs, am0, am1, inm, irs, aps, avr, ainn, abd, aen, sm0, sm1, sps, svr, sinn, sbd, sen⟩ := HV.out.openR SX.out
        rw [hvs] at kp
        have HDS := Lib.hid hds
        clear hds hvs
        obtain ⟨m0', m1', nm', rs', ps', vr', inn', bd', en', m0a', m0c', m1a', m1c', psa', psc', vra', vrc', inna', innc', bda', bdc', ena', enc', hds', hvs', am0', am1', inm', irs', aps', avr', ainn', abd', aen', sm0', sm1', sps', svr', sinn', sbd', sen'⟩ := HV'.out.openR SX'.out
        rw [hvs'] at kp'
        have HDS' := Lib.hid hds'
        clear hds' hvs'
        have R0 := Lib.hid (HB.out.trans (((HBN.out.trans (bb.mono HBN.out.size))).mono HB.out.size))
        have KA0 := Lib.hid kp
        have KB0 := Lib.hid kp'
        have cA0 := box_cells kp
        have cB0 := box_cells kp'
        clear bb kp kp'
        have Am0 := Lib.hid am0
        have Am0' := Lib.hid am0'
        have Am1 := Lib.hid am1
        have Am1' := Lib.hid am1'
        have Aps := Lib.hid aps
        have Aps' := Lib.hid aps'
        have Avr := Lib.hid avr
        have Avr' := Lib.hid avr'
        have Ainn := Lib.hid ainn
        have Ainn' := Lib.hid ainn'
        have Abd := Lib.hid abd
        have Abd' := Lib.hid abd'
        have Aen := Lib.hid aen
        have Aen' := Lib.hid aen'
        have Pen := Lib.hid (texts_rows w0 en en' sen sen')
        have Pvr := Lib.hid (refVars_any w0 vr vr' svr svr')
        have Pinn := Lib.hid (HF.out inn inn' ⟨ds, List.mem_of_getElem? HX.out, by rw [HDS.out]; simp⟩ sinn sinn')
        have Pbd := Lib.hid (refStmts_any w0 bd bd' sbd sbd')
        have PM := Lib.hid (fun W hW => refMarks_any w0 _ _ _ _ _ _ _ _ m0 m1 m0' m1' am0 am1 am0' am1' sm0 sm1 sm0' sm1' W hW)
        have Sps := Lib.hid sps
        have Sps' := Lib.hid sps'
        have leps := aps.len_le
        have leps' := aps'.len_le
        clear am0 am1 inm irs aps avr ainn abd aen sm0 sm1 sps svr sinn sbd sen am0' am1' inm' irs' aps' avr' ainn' abd' aen' sm0' sm1' sps' svr' sinn' sbd' sen'
        go_wp2_with fail
        have Z1 := HW.out.trans (R0.out.mono HW.out.size)
        refine (PM.out _ Z1).mono ?_
        rintro e w1 ⟨rfl, b1⟩
        have R1 := Lib.hid (R0.out.trans (b1.mono R0.out.size))
        have KA1 := Lib.hid ((b1.block _ (heap_lt KA0.out)).trans KA0.out)
        have KB1 := Lib.hid ((b1.block _ (heap_lt KB0.out)).trans KB0.out)
        have cA1 := box_cells KA1.out
        have cB1 := box_cells KB1.out
        clear b1 Z1 cA0 cB0
        cases hM : same (α := List D) [.row m0, .row m1] [.row m0', .row m1'] with
        | false =>
          have GH := Lib.hid (same_neq hM)
          clear hM
          have HE := Lib.hid (same_miss HX.out HX'.out (by rw [HDS.out, HDS'.out]; exact same_no (α := List D) (x := [.row m0, .row m1, .str nm, .int rs, .row ps, .row vr, .row inn, .row bd, .row en]) (y := [.row m0', .row m1', .str nm', .int rs', .row ps', .row vr', .row inn', .row bd', .row en']) (fun z => GH.out (congrArg (fun z : List D => (z.drop 0).take 2) z))))
          go_wp2_with fail
          go_ret
          exact ⟨by rw [HE.out]; rfl, R1.out⟩
        | true =>
          have QM := Lib.hid ((same_iff _ _).1 hM)
          clear hM
          cases hnm : nm.toList == nm'.toList with
          | false =>
            have hnnm : (nm.toList != nm'.toList) = true := by rw [bne, hnm]; rfl
            have GH := Lib.hid (show nm ≠ nm' from (fun z => by subst z; simp at hnm))
            have HE := Lib.hid (same_miss HX.out HX'.out (by rw [HDS.out, HDS'.out]; exact same_no (α := List D) (x := [.row m0, .row m1, .str nm, .int rs, .row ps, .row vr, .row inn, .row bd, .row en]) (y := [.row m0', .row m1', .str nm', .int rs', .row ps', .row vr', .row inn', .row bd', .row en']) (fun z => GH.out (D.str.inj (congrArg (fun z : List D => nth z 2) z)))))
            go_wp2_with fail
            go_ret
            exact ⟨by rw [HE.out]; rfl, R1.out⟩
          | true =>
            have hnnm : (nm.toList != nm'.toList) = false := by rw [bne, hnm]; rfl
            have Qnm := Lib.hid (show nm = nm' from ((ba_eq_iff _ _).1 hnm))
            cases hrs : rs == rs' with
            | false =>
              have hnrs : (rs != rs') = true := by rw [bne, hrs]; rfl
              have GH := Lib.hid (show rs ≠ rs' from (by simpa using hrs))
              have HE := Lib.hid (same_miss HX.out HX'.out (by rw [HDS.out, HDS'.out]; exact same_no (α := List D) (x := [.row m0, .row m1, .str nm, .int rs, .row ps, .row vr, .row inn, .row bd, .row en]) (y := [.row m0', .row m1', .str nm', .int rs', .row ps', .row vr', .row inn', .row bd', .row en']) (fun z => GH.out (D.int.inj (congrArg (fun z : List D => nth z 3) z)))))
              go_wp2_with fail
              go_ret
              exact ⟨by rw [HE.out]; rfl, R1.out⟩
            | true =>
              have hnrs : (rs != rs') = false := by rw [bne, hrs]; rfl
              have Qrs := Lib.hid (show rs = rs' from (by simpa using hrs))
              cases hlps : ps.length == ps'.length with
              | false =>
                have hmps : (ps.length != ps'.length) = true := by rw [bne, hlps]; rfl
                have hips : (((ps.length : Nat) : Int) == ((ps'.length : Nat) : Int)) = false := int_beq_no (by simpa using hlps)
                have hjps : (((ps.length : Nat) : Int) != ((ps'.length : Nat) : Int)) = true := by rw [bne, hips]; rfl
                have GH := Lib.hid (show ps ≠ ps' from fun z => by subst z; simp at hlps)
                have HE := Lib.hid (same_miss HX.out HX'.out (by rw [HDS.out, HDS'.out]; exact same_no (α := List D) (x := [.row m0, .row m1, .str nm, .int rs, .row ps, .row vr, .row inn, .row bd, .row en]) (y := [.row m0', .row m1', .str nm', .int rs', .row ps', .row vr', .row inn', .row bd', .row en']) (fun z => GH.out (D.row.inj (congrArg (fun z : List D => nth z 4) z)))))
                go_wp2_with fail
                go_ret
                exact ⟨by rw [HE.out]; rfl, R1.out⟩
              | true =>
                have hmps : (ps.length != ps'.length) = false := by rw [bne, hlps]; rfl
                have hips : (((ps.length : Nat) : Int) == ((ps'.length : Nat) : Int)) = true := int_beq_yes (by simpa using hlps)
                have hjps : (((ps.length : Nat) : Int) != ((ps'.length : Nat) : Int)) = false := by rw [bne, hips]; rfl
                have QLps := Lib.hid (show ps.length = ps'.length from by simpa using hlps)
                go_wp2_with fail
                have Z2 := HW.out.trans (R1.out.mono HW.out.size)
                refine (Pen.out _ _ _ _ _ _ Aen.out Aen'.out _ Z2).mono ?_
                rintro e w2 ⟨rfl, b2⟩
                have R2 := Lib.hid (R1.out.trans (b2.mono R1.out.size))
                have KA2 := Lib.hid ((b2.block _ (heap_lt KA1.out)).trans KA1.out)
                have KB2 := Lib.hid ((b2.block _ (heap_lt KB1.out)).trans KB1.out)
                have cA2 := box_cells KA2.out
                have cB2 := box_cells KB2.out
                clear b2 Z2 cA1 cB1
                cases hen : same en en' with
                | false =>
                  have GH := Lib.hid (same_neq hen)
                  clear hen
                  have HE := Lib.hid (same_miss HX.out HX'.out (by rw [HDS.out, HDS'.out]; exact same_no (α := List D) (x := [.row m0, .row m1, .str nm, .int rs, .row ps, .row vr, .row inn, .row bd, .row en]) (y := [.row m0', .row m1', .str nm', .int rs', .row ps', .row vr', .row inn', .row bd', .row en']) (fun z => GH.out (D.row.inj (congrArg (fun z : List D => nth z 8) z)))))
                  go_wp2_with fail
                  go_ret
                  exact ⟨by rw [HE.out]; rfl, R2.out⟩
                | true =>
                  have Qen := Lib.hid ((same_iff _ _).1 hen)
                  clear hen
                  go_wp2_with fail
                  go_loopw [8] (fun i wr => ∃ j : Nat, j ≤ ps.length ∧ i = .int .i64 j ∧ ps.take j = ps'.take j ∧ wr.heap[p]? = w2.heap[p]? ∧ wr.heap[p']? = w2.heap[p']? ∧ Below W.heap.size W wr) (fun i _ => ps.length - (intOf i).toNat)
                  case atStart => exact ⟨0, Nat.zero_le _, rfl, rfl, rfl, rfl, R2.out⟩
                  case round =>
                    rename_i wr2 _ _
                    obtain ⟨j, hj, rfl, htj, ka, kb, hRj⟩ := hrel
                    have HTJ := Lib.hid htj
                    have R3 := Lib.hid hRj
                    have KA3 := Lib.hid (ka.trans KA2.out)
                    have KB3 := Lib.hid (kb.trans KB2.out)
                    have HKA := Lib.hid ka
                    have HKB := Lib.hid kb
                    have cA3 := box_cells KA3.out
                    have cB3 := box_cells KB3.out
                    clear htj hRj ka kb cA2 cB2
                    by_cases hlj : j < ps.length
                    · obtain ⟨b2, o2, vs2, ds2, hea, hbl2, hx2, hv2, hc2⟩ := Aps.out.elem hlj
                      obtain ⟨b2', o2', vs2', ds2', hea', hbl2', hx2', hv2', hc2'⟩ := Aps'.out.elem (j := j) (by have := QLps.out; omega)
                      rw [hea] at cA3
                      rw [hea'] at cB3
                      obtain ⟨nmx, kdx, szx, tnx, mdx, rfl, rfl, _⟩ := hv2.openP (Sps.out _ (List.mem_of_getElem? hx2))
                      obtain ⟨nmy, kdy, szy, tny, mdy, rfl, rfl, _⟩ := hv2'.openP (Sps'.out _ (List.mem_of_getElem? hx2'))
                      have B2 := HW.out.trans (R3.out.mono HW.out.size)
                      have hc2 : ∀ (i : Nat) (v : Value), [Value.string nmx, .int .i64 kdx, .int .i64 szx, .string tnx, .int .i64 mdx][i]? = some v → w0.cell? ⟨b2, o2 + j * 5 + i, none⟩ = some v := hc2
                      have hc2' : ∀ (i : Nat) (v : Value), [Value.string nmy, .int .i64 kdy, .int .i64 szy, .string tny, .int .i64 mdy][i]? = some v → w0.cell? ⟨b2', o2' + j * 5 + i, none⟩ = some v := hc2'
                      have d0 := (B2.cell (p := ⟨b2, o2 + j * 5, none⟩) hbl2).trans (hc2 0 _ rfl)
                      have d1 := (B2.cell (p := ⟨b2, o2 + j * 5 + 1, none⟩) hbl2).trans (hc2 1 _ rfl)
                      have d2 := (B2.cell (p := ⟨b2, o2 + j * 5 + 2, none⟩) hbl2).trans (hc2 2 _ rfl)
                      have d3 := (B2.cell (p := ⟨b2, o2 + j * 5 + 3, none⟩) hbl2).trans (hc2 3 _ rfl)
                      have d4 := (B2.cell (p := ⟨b2, o2 + j * 5 + 4, none⟩) hbl2).trans (hc2 4 _ rfl)
                      have d0' := (B2.cell (p := ⟨b2', o2' + j * 5, none⟩) hbl2').trans (hc2' 0 _ rfl)
                      have d1' := (B2.cell (p := ⟨b2', o2' + j * 5 + 1, none⟩) hbl2').trans (hc2' 1 _ rfl)
                      have d2' := (B2.cell (p := ⟨b2', o2' + j * 5 + 2, none⟩) hbl2').trans (hc2' 2 _ rfl)
                      have d3' := (B2.cell (p := ⟨b2', o2' + j * 5 + 3, none⟩) hbl2').trans (hc2' 3 _ rfl)
                      have d4' := (B2.cell (p := ⟨b2', o2' + j * 5 + 4, none⟩) hbl2').trans (hc2' 4 _ rfl)
                      have hgd : Tryz.prog.eqGuardType Tryz.prog.depth 133 = false := by kernel_rfl
                      have HX2 := Lib.hid hx2
                      have HX2' := Lib.hid hx2'
                      have hjl' : j < ps'.length := by have := QLps.out; omega
                      clear hx2 hx2' B2 hc2 hc2' hv2 hv2' hea hea'
                      cases hsm : pmSame nmx nmy kdx kdy szx szy tnx tny mdx mdy with
                      | true =>
                        have HE2 := Lib.hid (show ([.str nmx, .int kdx, .int szx, .str tnx, .int mdx] : List D) = [.str nmy, .int kdy, .int szy, .str tny, .int mdy] by obtain ⟨rfl, ⟨rfl, rfl, rfl⟩, rfl⟩ := pmSame_iff.1 hsm; rfl)
                        have TYF := fun w => (pm_neq nmx nmy kdx kdy szx szy tnx tny mdx mdy w).trans (by rw [hsm, Bool.not_true])
                        clear hsm
                        go_wp2_with fail
                        go_quiet (fail)
                        go_wp2_with fail
                        go_roundw
                        case rel => exact ⟨j + 1, by omega, by go_num, take_same_succ HX2.out (HE2.out ▸ HX2'.out) HTJ.out, HKA.out, HKB.out, below_drewN R3.out _⟩
                        case measure => simp [intOf]; omega
                      | false =>
                        have GH := Lib.hid (same_neq (same_miss HX2.out HX2'.out (same_no fun e => by
                          have : pmSame nmx nmy kdx kdy szx szy tnx tny mdx mdy = true := pmSame_iff.2 (by simp at e; exact ⟨e.1, ⟨e.2.1, e.2.2.1, e.2.2.2.1⟩, e.2.2.2.2⟩)
                          rw [hsm] at this
                          cases this)))
                        have TYF := fun w => (pm_neq nmx nmy kdx kdy szx szy tnx tny mdx mdy w).trans (by rw [hsm, Bool.not_false])
                        clear hsm
                        have HE := Lib.hid (same_miss HX.out HX'.out (by rw [HDS.out, HDS'.out]; exact same_no (α := List D) (x := [.row m0, .row m1, .str nm, .int rs, .row ps, .row vr, .row inn, .row bd, .row en]) (y := [.row m0', .row m1', .str nm', .int rs', .row ps', .row vr', .row inn', .row bd', .row en']) (fun z => GH.out (D.row.inj (congrArg (fun z : List D => nth z 4) z)))))
                        go_wp2_with fail
                        go_quiet (fail)
                        go_wp2_with fail
                        go_ret
                        exact ⟨by rw [HE.out]; rfl, below_drewN R3.out _⟩
                    · have Qps := Lib.hid (show ps = ps' by
                        have h1 := HTJ.out
                        rw [List.take_of_length_le (by omega), List.take_of_length_le (by have := QLps.out; omega)] at h1
                        exact h1)
                      obtain rfl : j = ps.length := by omega
                      go_wp2_with fail
                      have Z4 := HW.out.trans (R3.out.mono HW.out.size)
                      refine (Pvr.out _ _ _ _ _ _ Avr.out Avr'.out _ Z4).mono ?_
                      rintro e w4 ⟨rfl, b4⟩
                      have R4 := Lib.hid (R3.out.trans (b4.mono R3.out.size))
                      have KA4 := Lib.hid ((b4.block _ (heap_lt KA3.out)).trans KA3.out)
                      have KB4 := Lib.hid ((b4.block _ (heap_lt KB3.out)).trans KB3.out)
                      have cA4 := box_cells KA4.out
                      have cB4 := box_cells KB4.out
                      clear b4 Z4 cA3 cB3
                      cases hvr : same vr vr' with
                      | false =>
                        have GH := Lib.hid (same_neq hvr)
                        clear hvr
                        have HE := Lib.hid (same_miss HX.out HX'.out (by rw [HDS.out, HDS'.out]; exact same_no (α := List D) (x := [.row m0, .row m1, .str nm, .int rs, .row ps, .row vr, .row inn, .row bd, .row en]) (y := [.row m0', .row m1', .str nm', .int rs', .row ps', .row vr', .row inn', .row bd', .row en']) (fun z => GH.out (D.row.inj (congrArg (fun z : List D => nth z 5) z)))))
                        go_wp2_with fail
                        go_ret
                        exact ⟨by rw [HE.out]; rfl, R4.out⟩
                      | true =>
                        have Qvr := Lib.hid ((same_iff _ _).1 hvr)
                        clear hvr
                        go_wp2_with fail
                        have Z5 := HW.out.trans (R4.out.mono HW.out.size)
                        refine (Pinn.out _ _ _ _ _ _ Ainn.out Ainn'.out _ Z5).mono ?_
                        rintro e w5 ⟨rfl, b5⟩
                        have R5 := Lib.hid (R4.out.trans (b5.mono R4.out.size))
                        have KA5 := Lib.hid ((b5.block _ (heap_lt KA4.out)).trans KA4.out)
                        have KB5 := Lib.hid ((b5.block _ (heap_lt KB4.out)).trans KB4.out)
                        have cA5 := box_cells KA5.out
                        have cB5 := box_cells KB5.out
                        clear b5 Z5 cA4 cB4
                        cases hinn : same inn inn' with
                        | false =>
                          have GH := Lib.hid (same_neq hinn)
                          clear hinn
                          have HE := Lib.hid (same_miss HX.out HX'.out (by rw [HDS.out, HDS'.out]; exact same_no (α := List D) (x := [.row m0, .row m1, .str nm, .int rs, .row ps, .row vr, .row inn, .row bd, .row en]) (y := [.row m0', .row m1', .str nm', .int rs', .row ps', .row vr', .row inn', .row bd', .row en']) (fun z => GH.out (D.row.inj (congrArg (fun z : List D => nth z 6) z)))))
                          go_wp2_with fail
                          go_ret
                          exact ⟨by rw [HE.out]; rfl, R5.out⟩
                        | true =>
                          have Qinn := Lib.hid ((same_iff _ _).1 hinn)
                          clear hinn
                          go_wp2_with fail
                          have Z6 := HW.out.trans (R5.out.mono HW.out.size)
                          refine (Pbd.out _ _ _ _ _ _ Abd.out Abd'.out _ Z6).mono ?_
                          rintro e w6 ⟨rfl, b6⟩
                          have R6 := Lib.hid (R5.out.trans (b6.mono R5.out.size))
                          have KA6 := Lib.hid ((b6.block _ (heap_lt KA5.out)).trans KA5.out)
                          have KB6 := Lib.hid ((b6.block _ (heap_lt KB5.out)).trans KB5.out)
                          have cA6 := box_cells KA6.out
                          have cB6 := box_cells KB6.out
                          clear b6 Z6 cA5 cB5
                          cases hbd : same bd bd' with
                          | false =>
                            have GH := Lib.hid (same_neq hbd)
                            clear hbd
                            have HE := Lib.hid (same_miss HX.out HX'.out (by rw [HDS.out, HDS'.out]; exact same_no (α := List D) (x := [.row m0, .row m1, .str nm, .int rs, .row ps, .row vr, .row inn, .row bd, .row en]) (y := [.row m0', .row m1', .str nm', .int rs', .row ps', .row vr', .row inn', .row bd', .row en']) (fun z => GH.out (D.row.inj (congrArg (fun z : List D => nth z 7) z)))))
                            go_wp2_with fail
                            go_ret
                            exact ⟨by rw [HE.out]; rfl, R6.out⟩
                          | true =>
                            have Qbd := Lib.hid ((same_iff _ _).1 hbd)
                            clear hbd
                            have HE := Lib.hid (show ds = ds' by
                              rw [HDS.out, HDS'.out]
                              obtain ⟨rfl, rfl⟩ : m0 = m0' ∧ m1 = m1' := by simpa using QM.out
                              obtain rfl := Qnm.out
                              obtain rfl := Qrs.out
                              obtain rfl := Qen.out
                              obtain rfl := Qps.out
                              obtain rfl := Qvr.out
                              obtain rfl := Qinn.out
                              obtain rfl := Qbd.out
                              rfl)
                            go_wp2_with fail
                            go_roundw
                            case rel => exact ⟨k + 1, by omega, by go_num, take_same_succ HX.out (HE.out ▸ HX'.out) HT.out, R6.out⟩
                            case measure => simp [intOf]; omega
      · obtain rfl : k = len := by omega
        go_wp2_with fail
        go_ret
        exact ⟨by rw [same_end (HL.out.trans HL'.out.symm) (by rw [HL.out]; exact HT.out)]; rfl, HB.out⟩
  · have hne : (len == len') = false := by simpa using hn
    have HN := Lib.hid (same_len (l := l) (l' := l') (by rw [HL.out, HL'.out]; exact hn))
    go_enter Tryz.func46, Tryz.ntmps46
    go_wp2_with fail
    go_ret
    exact ⟨by rw [HN.out]; rfl, Below.refl _ _⟩
theorem refRoutines_upto (w0 : World) (n : Nat) : ∀ l l' : List (List D), SizeOf.sizeOf l ≤ n → (∀ z ∈ l, ShR z) → (∀ z ∈ l', ShR z) → RowsEq w0 46 l l' := by
  induction n with
  | zero => intro l l' h; cases l <;> simp at h <;> omega
  | succ n ih =>
    intro l l' hn hs hs'
    refine refRoutines_step w0 l l' hs hs' fun m m' hm hsm hsm' => ih m m' ?_ hsm hsm'
    obtain ⟨x, hx, hm⟩ := hm
    have h1 := List.sizeOf_lt_of_mem hx
    have h2 := List.sizeOf_lt_of_mem hm
    have h3 : SizeOf.sizeOf (D.row m) = 1 + SizeOf.sizeOf m := by simp
    omega
theorem refRoutines_any (w0 : World) (l l' : List (List D)) (hs : ∀ z ∈ l, ShR z) (hs' : ∀ z ∈ l', ShR z) : RowsEq w0 46 l l' := refRoutines_upto w0 _ l l' (Nat.le_refl _) hs hs'
end Go.Proofs.YtciijpahjjoppaaGreat
