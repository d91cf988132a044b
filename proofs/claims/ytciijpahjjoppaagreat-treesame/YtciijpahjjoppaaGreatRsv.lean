/-
  The reference's comparisons: walked.
-/
import Derived.Test.YtciijpahjjoppaaGreatRsm
import Derived.Test.YtciijpahjjoppaaGreatRsb
namespace Go.Proofs.YtciijpahjjoppaaGreat
open Go.RowKit Go.Deep Go.Sort
theorem ty_neq (kd kd' sz sz' : Int) (tn tn' : ByteArray) (w : World) : Sem.run Tryz.prog (binOp .neq 73 (.agg #[.int .i64 kd, .int .i64 sz, .string tn]) (.agg #[.int .i64 kd', .int .i64 sz', .string tn'])) w = .ok (.bool (!tySame kd kd' sz sz' tn tn')) w := by
  rw [run_neq_struct, show (10000 : Nat) = 9998 + 1 + 1 from rfl, ty_equalIn]
  rfl
set_option maxRecDepth 100000 in
set_option maxHeartbeats 4000000 in
theorem refVars_any (w0 : World) (l l' : List (List D)) (hs : ∀ x ∈ l, ShV x) (hs' : ∀ x ∈ l', ShV x) : RowsEq w0 45 l l' := by
  intro a a' len len' cap cap' hA hA' W hW
  have HA := Lib.hid hA
  have HA' := Lib.hid hA'
  have HS := Lib.hid hs
  have HS' := Lib.hid hs'
  have HW := Lib.hid hW
  have hle := hA.len_le
  have hle' := hA'.len_le
  have HL := Lib.hid hA.len_eq.1
  have HL' := Lib.hid hA'.len_eq.1
  clear hA hA' hs hs' hW
  by_cases hn : len = len'
  · subst hn
    go_enter Tryz.func45, Tryz.ntmps45
    go_wp2_with fail
    go_loopw [5] (fun i wr => ∃ k : Nat, k ≤ len ∧ i = .int .i64 k ∧ l.take k = l'.take k ∧ Below W.heap.size W wr) (fun i _ => len - (intOf i).toNat)
    case atStart => exact ⟨0, Nat.zero_le _, rfl, rfl, Below.refl _ _⟩
    case round =>
      obtain ⟨k, hk, rfl, ht, hb⟩ := hrel
      have HT := Lib.hid ht
      have HB := Lib.hid hb
      clear ht hb
      by_cases hlt : k < len
      · obtain ⟨b, o, vs, ds, rfl, hbl, hx, hv, hc⟩ := HA.out.elem hlt
        obtain ⟨b', o', vs', ds', rfl, hbl', hx', hv', hc'⟩ := HA'.out.elem hlt
        have B0 := HW.out.trans (HB.out.mono HW.out.size)
        have hbw : b < wr.heap.size := Nat.lt_of_lt_of_le hbl B0.size
        have hbw' : b' < wr.heap.size := Nat.lt_of_lt_of_le hbl' B0.size
        have HX := Lib.hid hx
        have HX' := Lib.hid hx'
        have SX := Lib.hid (HS.out _ (List.mem_of_getElem? hx))
        have SX' := Lib.hid (HS'.out _ (List.mem_of_getElem? hx'))
        obtain ⟨m0, m1, nm, kd, sz, tn, m0a, m0c, m1a, m1c, hds, rfl, am0, am1, _, _, _, _, sm0, sm1⟩ := hv.openV SX.out
        obtain ⟨m0', m1', nm', kd', sz', tn', m0a', m0c', m1a', m1c', hds', rfl, am0', am1', _, _, _, _, sm0', sm1'⟩ := hv'.openV SX'.out
        have hdl : ds.length = 6 := by rw [hds]; rfl
        have hdl' : ds'.length = 6 := by rw [hds']; rfl
        rw [hdl] at hc
        rw [hdl'] at hc'
        have HDS := Lib.hid hds
        have HDS' := Lib.hid hds'
        clear hds hds' hdl hdl' hv hv'
        have c0 := cell_regrown ((B0.cell (p := ⟨b, o + k * 6, none⟩) hbl).trans (hc 0 _ rfl))
        have c1 := cell_regrown ((B0.cell (p := ⟨b, o + k * 6 + 1, none⟩) hbl).trans (hc 1 _ rfl))
        have c2 := cell_regrown ((B0.cell (p := ⟨b, o + k * 6 + 2, none⟩) hbl).trans (hc 2 _ rfl))
        have c3 := cell_regrown ((B0.cell (p := ⟨b, o + k * 6 + 3, none⟩) hbl).trans (hc 3 _ rfl))
        have c4 := cell_regrown ((B0.cell (p := ⟨b, o + k * 6 + 4, none⟩) hbl).trans (hc 4 _ rfl))
        have c5 := cell_regrown ((B0.cell (p := ⟨b, o + k * 6 + 5, none⟩) hbl).trans (hc 5 _ rfl))
        have c0' := cell_regrown ((B0.cell (p := ⟨b', o' + k * 6, none⟩) hbl').trans (hc' 0 _ rfl))
        have c1' := cell_regrown ((B0.cell (p := ⟨b', o' + k * 6 + 1, none⟩) hbl').trans (hc' 1 _ rfl))
        have c2' := cell_regrown ((B0.cell (p := ⟨b', o' + k * 6 + 2, none⟩) hbl').trans (hc' 2 _ rfl))
        have c3' := cell_regrown ((B0.cell (p := ⟨b', o' + k * 6 + 3, none⟩) hbl').trans (hc' 3 _ rfl))
        have c4' := cell_regrown ((B0.cell (p := ⟨b', o' + k * 6 + 4, none⟩) hbl').trans (hc' 4 _ rfl))
        have c5' := cell_regrown ((B0.cell (p := ⟨b', o' + k * 6 + 5, none⟩) hbl').trans (hc' 5 _ rfl))
        have hfn := fun W hW => refMarks_any w0 _ _ _ _ _ _ _ _ m0 m1 m0' m1' am0 am1 am0' am1' sm0 sm1 sm0' sm1' W hW
        have hgd : Tryz.prog.eqGuardType Tryz.prog.depth 73 = false := by kernel_rfl
        clear hx hx' hc hc'
        cases hM : same (α := List D) [.row m0, .row m1] [.row m0', .row m1'] with
        | false =>
          have HM := Lib.hid hM
          have HE := Lib.hid (same_miss HX.out HX'.out (by rw [HDS.out, HDS'.out]; exact same_no (α := List D) (x := [.row m0, .row m1, .str nm, .int kd, .int sz, .str tn]) (y := [.row m0', .row m1', .str nm', .int kd', .int sz', .str tn']) (fun z => same_neq HM.out (congrArg (fun z : List D => (z.drop 0).take 2) z))))
          clear hM
          have cF : ∀ d os, Calls Tryz.prog 44 #[.agg #[.slice m0a m0.length m0c, .slice m1a m1.length m1c], .agg #[.slice m0a' m0'.length m0c', .slice m1a' m1'.length m1c']] (grow (redrawn wr d) os) fun e w'' => e = .returned (.bool false) ∧ ∃ p : Regrown, w'' = grow (redrawn wr p.d) p.os := fun d os => by
            have := hfn _ (B0.trans ((below_regrown wr d os).mono B0.size))
            unfold EqPost at this
            rw [HM.out] at this
            exact Calls.regrown_of this
          have CF := Lib.hid cF
          clear cF hfn B0
          go_wp2_with fail
          refine wp_region_quiet_below (by kernel_rfl) (by kernel_rfl) ?_
          repeat (first | go_big_quiet_step ((with_reducible exact CF.out _ _)) | quiet_step ((with_reducible exact CF.out _ _)))
          refine wpQuiet_nil ?_
          intro _ hw'
          obtain ⟨⟨dq, osq⟩, hw''⟩ := hw'
          subst hw''
          have HB4 := Lib.hid (HB.out.trans ((below_regrown wr dq osq).mono HB.out.size))
          go_wp2_with fail
          go_ret
          exact ⟨by rw [HE.out]; rfl, HB4.out⟩
        | true =>
          have HM := Lib.hid hM
          clear hM
          cases hnm : nm.toList == nm'.toList with
          | false =>
            have hnn : (nm.toList != nm'.toList) = true := by rw [bne, hnm]; rfl
            have HE := Lib.hid (same_miss HX.out HX'.out (by rw [HDS.out, HDS'.out]; exact same_no (α := List D) (x := [.row m0, .row m1, .str nm, .int kd, .int sz, .str tn]) (y := [.row m0', .row m1', .str nm', .int kd', .int sz', .str tn']) (fun z => (fun e => by subst e; simp at hnm) (D.str.inj (congrArg (fun z : List D => nth z 2) z)))))
            have cF : ∀ d os, Calls Tryz.prog 44 #[.agg #[.slice m0a m0.length m0c, .slice m1a m1.length m1c], .agg #[.slice m0a' m0'.length m0c', .slice m1a' m1'.length m1c']] (grow (redrawn wr d) os) fun e w'' => e = .returned (.bool true) ∧ ∃ p : Regrown, w'' = grow (redrawn wr p.d) p.os := fun d os => by
              have := hfn _ (B0.trans ((below_regrown wr d os).mono B0.size))
              unfold EqPost at this
              rw [HM.out] at this
              exact Calls.regrown_of this
            have CF := Lib.hid cF
            clear cF hfn B0
            go_wp2_with fail
            refine wp_region_quiet_below (by kernel_rfl) (by kernel_rfl) ?_
            repeat (first | go_big_quiet_step ((with_reducible exact CF.out _ _)) | quiet_step ((with_reducible exact CF.out _ _)))
            refine wpQuiet_nil ?_
            intro _ hw'
            obtain ⟨⟨dq, osq⟩, hw''⟩ := hw'
            subst hw''
            have HB4 := Lib.hid (HB.out.trans ((below_regrown wr dq osq).mono HB.out.size))
            go_wp2_with fail
            go_ret
            exact ⟨by rw [HE.out]; rfl, HB4.out⟩
          | true =>
            have hnn : (nm.toList != nm'.toList) = false := by rw [bne, hnm]; rfl
            cases hTY : tySame kd kd' sz sz' tn tn' with
            | false =>
              have TYF := fun w => (ty_neq kd kd' sz sz' tn tn' w).trans (by rw [hTY, Bool.not_false])
              have HE := Lib.hid (same_miss HX.out HX'.out (by rw [HDS.out, HDS'.out]; exact same_no (α := List D) (x := [.row m0, .row m1, .str nm, .int kd, .int sz, .str tn]) (y := [.row m0', .row m1', .str nm', .int kd', .int sz', .str tn']) (fun z => tyList_no hTY (congrArg (fun z : List D => (z.drop 3).take 3) z))))
              clear hTY
              have cF : ∀ d os, Calls Tryz.prog 44 #[.agg #[.slice m0a m0.length m0c, .slice m1a m1.length m1c], .agg #[.slice m0a' m0'.length m0c', .slice m1a' m1'.length m1c']] (grow (redrawn wr d) os) fun e w'' => e = .returned (.bool true) ∧ ∃ p : Regrown, w'' = grow (redrawn wr p.d) p.os := fun d os => by
                have := hfn _ (B0.trans ((below_regrown wr d os).mono B0.size))
                unfold EqPost at this
                rw [HM.out] at this
                exact Calls.regrown_of this
              have CF := Lib.hid cF
              clear cF hfn B0
              go_wp2_with fail
              refine wp_region_quiet_below (by kernel_rfl) (by kernel_rfl) ?_
              repeat (first | go_big_quiet_step ((with_reducible exact CF.out _ _)) | quiet_step ((with_reducible exact CF.out _ _)))
              refine wpQuiet_nil ?_
              intro _ hw'
              obtain ⟨⟨dq, osq⟩, hw''⟩ := hw'
              subst hw''
              have HB4 := Lib.hid (HB.out.trans ((below_regrown wr dq osq).mono HB.out.size))
              go_wp2_with fail
              go_ret
              exact ⟨by rw [HE.out]; rfl, HB4.out⟩
            | true =>
              have TYF := fun w => (ty_neq kd kd' sz sz' tn tn' w).trans (by rw [hTY, Bool.not_true])
              have HE := Lib.hid (show ds = ds' by
                rw [HDS.out, HDS'.out]
                obtain ⟨rfl, rfl⟩ : m0 = m0' ∧ m1 = m1' := by simpa using (same_iff _ _).1 HM.out
                obtain rfl := (ba_eq_iff _ _).1 hnm
                obtain ⟨rfl, rfl, rfl⟩ := tySame_iff.1 hTY
                rfl)
              clear hTY
              have cF : ∀ d os, Calls Tryz.prog 44 #[.agg #[.slice m0a m0.length m0c, .slice m1a m1.length m1c], .agg #[.slice m0a' m0'.length m0c', .slice m1a' m1'.length m1c']] (grow (redrawn wr d) os) fun e w'' => e = .returned (.bool true) ∧ ∃ p : Regrown, w'' = grow (redrawn wr p.d) p.os := fun d os => by
                have := hfn _ (B0.trans ((below_regrown wr d os).mono B0.size))
                unfold EqPost at this
                rw [HM.out] at this
                exact Calls.regrown_of this
              have CF := Lib.hid cF
              clear cF hfn B0
              go_wp2_with fail
              refine wp_region_quiet_below (by kernel_rfl) (by kernel_rfl) ?_
              repeat (first | go_big_quiet_step ((with_reducible exact CF.out _ _)) | quiet_step ((with_reducible exact CF.out _ _)))
              refine wpQuiet_nil ?_
              intro _ hw'
              obtain ⟨⟨dq, osq⟩, hw''⟩ := hw'
              subst hw''
              have HB4 := Lib.hid (HB.out.trans ((below_regrown wr dq osq).mono HB.out.size))
              go_wp2_with fail
              go_roundw
              case rel => exact ⟨k + 1, by omega, by go_num, take_same_succ HX.out (HE.out ▸ HX'.out) HT.out, HB4.out⟩
              case measure => simp [intOf]; omega
      · obtain rfl : k = len := by omega
        go_wp2_with fail
        go_ret
        exact ⟨by rw [same_end (HL.out.trans HL'.out.symm) (by rw [HL.out]; exact HT.out)]; rfl, HB.out⟩
  · have hne : (len == len') = false := by simpa using hn
    have HN := Lib.hid (same_len (l := l) (l' := l') (by rw [HL.out, HL'.out]; exact hn))
    go_enter Tryz.func45, Tryz.ntmps45
    go_wp2_with fail
    go_ret
    exact ⟨by rw [HN.out]; rfl, Below.refl _ _⟩
end Go.Proofs.YtciijpahjjoppaaGreat
