/-
  Two structs compared field by field: walked.
-/
import Derived.Test.YtciijpahjjoppaaGreatSmC
import Derived.Test.YtciijpahjjoppaaGreatEqC
import Derived.Test.YtciijpahjjoppaaGreatSmR
namespace Go.Proofs.YtciijpahjjoppaaGreat
open Go.RowKit Go.Deep
set_option maxRecDepth 100000 in
set_option maxHeartbeats 2000000 in
theorem same_step (w0 : World) (x y : List D) (hx : ShG x) (hy : ShG y) (vs ws : List Value) (hv : AllAt w0 vs x) (hw : AllAt w0 ws y)
    (W : World) (hW : Below w0.heap.size w0 W) : Calls Tryz.prog 14 #[.agg ⟨vs⟩, .agg ⟨ws⟩] W (EqPost x y W) := by
  obtain ⟨nm, be, mi, af, rc, vr, rt, bd, en, bea, bec, mia, mic, afa, afc, rca, rcc, vra, vrc, rta, rtc, bda, bdc, ena, enc, rfl, rfl, -, abe, ami, aaf, arc, avr, art, abd, aen, sbe, smi, saf, src, svr, srt, sbd, sen⟩ := hv.openG hx
  obtain ⟨nm', be', mi', af', rc', vr', rt', bd', en', bea', bec', mia', mic', afa', afc', rca', rcc', vra', vrc', rta', rtc', bda', bdc', ena', enc', rfl, rfl, -, abe', ami', aaf', arc', avr', art', abd', aen', sbe', smi', saf', src', svr', srt', sbd', sen'⟩ := hw.openG hy
  have Prc := Lib.hid (efn_C w0 rc rc' src src')
  have Pvr := Lib.hid (efn_V w0 vr vr' svr svr')
  have Prt := Lib.hid (efn_R w0 rt rt' srt srt')
  have Pbd := Lib.hid (efn_S w0 bd bd' sbd sbd')
  have Abe := Lib.hid abe
  have Ami := Lib.hid ami
  have Aaf := Lib.hid aaf
  have Arc := Lib.hid arc
  have Avr := Lib.hid avr
  have Art := Lib.hid art
  have Abd := Lib.hid abd
  have Aen := Lib.hid aen
  have Sbe := Lib.hid sbe
  have Smi := Lib.hid smi
  have Saf := Lib.hid saf
  have Src := Lib.hid src
  have Svr := Lib.hid svr
  have Srt := Lib.hid srt
  have Sbd := Lib.hid sbd
  have Sen := Lib.hid sen
  have Abe' := Lib.hid abe'
  have Ami' := Lib.hid ami'
  have Aaf' := Lib.hid aaf'
  have Arc' := Lib.hid arc'
  have Avr' := Lib.hid avr'
  have Art' := Lib.hid art'
  have Abd' := Lib.hid abd'
  have Aen' := Lib.hid aen'
  have Sbe' := Lib.hid sbe'
  have Smi' := Lib.hid smi'
  have Saf' := Lib.hid saf'
  have Src' := Lib.hid src'
  have Svr' := Lib.hid svr'
  have Srt' := Lib.hid srt'
  have Sbd' := Lib.hid sbd'
  have Sen' := Lib.hid sen'
  clear hx hy hv hw abe abe' ami ami' aaf aaf' arc arc' avr avr' art art' abd abd' aen aen' sbe sbe' smi smi' saf saf' src src' svr svr' srt srt' sbd sbd' sen sen'
  have HW := Lib.hid hW
  clear hW
  cases hnm : nm.toList == nm'.toList with
  | false =>
    have G : nm ≠ nm' := (fun z => by subst z; simp at hnm)
    have GH := Lib.hid G
    clear G
    go_enter Tryz.func14, Tryz.ntmps14
    go_wp2_with fail
    go_ret
    exact ⟨by rw [same_no (α := List D) (x := [.str nm, .row be, .row mi, .row af, .row rc, .row vr, .row rt, .row bd, .row en]) (y := [.str nm', .row be', .row mi', .row af', .row rc', .row vr', .row rt', .row bd', .row en']) (fun z => GH.out (D.str.inj (congrArg (fun z : List D => nth z 0) z)))]; rfl, ((Below.refl _ _).alloc (Nat.le_refl _) _).alloc (by simp) _⟩
  | true =>
    have Qnm := Lib.hid (show nm = nm' from ((ba_eq_iff _ _).1 hnm))
    go_enter Tryz.func14, Tryz.ntmps14
    go_wp2_with fail
    have R0 := Lib.hid (((Below.refl W.heap.size W).alloc (Nat.le_refl _) (.cells #[.string nm, .slice bea be.length bec, .slice mia mi.length mic, .slice afa af.length afc, .slice rca rc.length rcc, .slice vra vr.length vrc, .slice rta rt.length rtc, .slice bda bd.length bdc, .slice ena en.length enc] 35)).alloc (by simp) (.cells #[.string nm', .slice bea' be'.length bec', .slice mia' mi'.length mic', .slice afa' af'.length afc', .slice rca' rc'.length rcc', .slice vra' vr'.length vrc', .slice rta' rt'.length rtc', .slice bda' bd'.length bdc', .slice ena' en'.length enc'] 35))
    have KA0 := Lib.hid (show ((W.alloc (.cells #[.string nm, .slice bea be.length bec, .slice mia mi.length mic, .slice afa af.length afc, .slice rca rc.length rcc, .slice vra vr.length vrc, .slice rta rt.length rtc, .slice bda bd.length bdc, .slice ena en.length enc] 35)).alloc (.cells #[.string nm', .slice bea' be'.length bec', .slice mia' mi'.length mic', .slice afa' af'.length afc', .slice rca' rc'.length rcc', .slice vra' vr'.length vrc', .slice rta' rt'.length rtc', .slice bda' bd'.length bdc', .slice ena' en'.length enc'] 35)).heap[W.heap.size]? = some (.cells #[.string nm, .slice bea be.length bec, .slice mia mi.length mic, .slice afa af.length afc, .slice rca rc.length rcc, .slice vra vr.length vrc, .slice rta rt.length rtc, .slice bda bd.length bdc, .slice ena en.length enc] 35) from box_first W (.cells #[.string nm, .slice bea be.length bec, .slice mia mi.length mic, .slice afa af.length afc, .slice rca rc.length rcc, .slice vra vr.length vrc, .slice rta rt.length rtc, .slice bda bd.length bdc, .slice ena en.length enc] 35) (.cells #[.string nm', .slice bea' be'.length bec', .slice mia' mi'.length mic', .slice afa' af'.length afc', .slice rca' rc'.length rcc', .slice vra' vr'.length vrc', .slice rta' rt'.length rtc', .slice bda' bd'.length bdc', .slice ena' en'.length enc'] 35))
    have KB0 := Lib.hid (show ((W.alloc (.cells #[.string nm, .slice bea be.length bec, .slice mia mi.length mic, .slice afa af.length afc, .slice rca rc.length rcc, .slice vra vr.length vrc, .slice rta rt.length rtc, .slice bda bd.length bdc, .slice ena en.length enc] 35)).alloc (.cells #[.string nm', .slice bea' be'.length bec', .slice mia' mi'.length mic', .slice afa' af'.length afc', .slice rca' rc'.length rcc', .slice vra' vr'.length vrc', .slice rta' rt'.length rtc', .slice bda' bd'.length bdc', .slice ena' en'.length enc'] 35)).heap[W.heap.size + 1]? = some (.cells #[.string nm', .slice bea' be'.length bec', .slice mia' mi'.length mic', .slice afa' af'.length afc', .slice rca' rc'.length rcc', .slice vra' vr'.length vrc', .slice rta' rt'.length rtc', .slice bda' bd'.length bdc', .slice ena' en'.length enc'] 35) from box_second W (.cells #[.string nm, .slice bea be.length bec, .slice mia mi.length mic, .slice afa af.length afc, .slice rca rc.length rcc, .slice vra vr.length vrc, .slice rta rt.length rtc, .slice bda bd.length bdc, .slice ena en.length enc] 35) (.cells #[.string nm', .slice bea' be'.length bec', .slice mia' mi'.length mic', .slice afa' af'.length afc', .slice rca' rc'.length rcc', .slice vra' vr'.length vrc', .slice rta' rt'.length rtc', .slice bda' bd'.length bdc', .slice ena' en'.length enc'] 35))
    have Z1 := HW.out.trans (R0.out.mono HW.out.size)
    refine (equalT_any w0 _ _ _ _ _ _ _ _ Abe.out Abe'.out Sbe.out Sbe'.out _ Z1).mono ?_
    rintro e w1 ⟨rfl, b1⟩
    have R1 := Lib.hid (R0.out.trans (b1.mono R0.out.size))
    have KA1 := Lib.hid ((b1.block _ (heap_lt KA0.out)).trans KA0.out)
    have KB1 := Lib.hid ((b1.block _ (heap_lt KB0.out)).trans KB0.out)
    have cA1 := box_cells KA1.out
    have cB1 := box_cells KB1.out
    clear b1 Z1
    cases hbe : same be be' with
    | false =>
      have GH := Lib.hid (same_neq hbe)
      clear hbe
      go_wp2_with fail
      go_ret
      exact ⟨by rw [same_no (α := List D) (x := [.str nm, .row be, .row mi, .row af, .row rc, .row vr, .row rt, .row bd, .row en]) (y := [.str nm', .row be', .row mi', .row af', .row rc', .row vr', .row rt', .row bd', .row en']) (fun z => GH.out (D.row.inj (congrArg (fun z : List D => nth z 1) z)))]; rfl, R1.out⟩
    | true =>
      have Qbe := Lib.hid ((same_iff _ _).1 hbe)
      clear hbe
      go_wp2_with fail
      clear cA1 cB1
      have Z2 := HW.out.trans (R1.out.mono HW.out.size)
      refine (equalT_any w0 _ _ _ _ _ _ _ _ Ami.out Ami'.out Smi.out Smi'.out _ Z2).mono ?_
      rintro e w2 ⟨rfl, b2⟩
      have R2 := Lib.hid (R1.out.trans (b2.mono R1.out.size))
      have KA2 := Lib.hid ((b2.block _ (heap_lt KA1.out)).trans KA1.out)
      have KB2 := Lib.hid ((b2.block _ (heap_lt KB1.out)).trans KB1.out)
      have cA2 := box_cells KA2.out
      have cB2 := box_cells KB2.out
      clear b2 Z2
      cases hmi : same mi mi' with
      | false =>
        have GH := Lib.hid (same_neq hmi)
        clear hmi
        go_wp2_with fail
        go_ret
        exact ⟨by rw [same_no (α := List D) (x := [.str nm, .row be, .row mi, .row af, .row rc, .row vr, .row rt, .row bd, .row en]) (y := [.str nm', .row be', .row mi', .row af', .row rc', .row vr', .row rt', .row bd', .row en']) (fun z => GH.out (D.row.inj (congrArg (fun z : List D => nth z 2) z)))]; rfl, R2.out⟩
      | true =>
        have Qmi := Lib.hid ((same_iff _ _).1 hmi)
        clear hmi
        go_wp2_with fail
        clear cA2 cB2
        have Z3 := HW.out.trans (R2.out.mono HW.out.size)
        refine (equalT_any w0 _ _ _ _ _ _ _ _ Aaf.out Aaf'.out Saf.out Saf'.out _ Z3).mono ?_
        rintro e w3 ⟨rfl, b3⟩
        have R3 := Lib.hid (R2.out.trans (b3.mono R2.out.size))
        have KA3 := Lib.hid ((b3.block _ (heap_lt KA2.out)).trans KA2.out)
        have KB3 := Lib.hid ((b3.block _ (heap_lt KB2.out)).trans KB2.out)
        have cA3 := box_cells KA3.out
        have cB3 := box_cells KB3.out
        clear b3 Z3
        cases haf : same af af' with
        | false =>
          have GH := Lib.hid (same_neq haf)
          clear haf
          go_wp2_with fail
          go_ret
          exact ⟨by rw [same_no (α := List D) (x := [.str nm, .row be, .row mi, .row af, .row rc, .row vr, .row rt, .row bd, .row en]) (y := [.str nm', .row be', .row mi', .row af', .row rc', .row vr', .row rt', .row bd', .row en']) (fun z => GH.out (D.row.inj (congrArg (fun z : List D => nth z 3) z)))]; rfl, R3.out⟩
        | true =>
          have Qaf := Lib.hid ((same_iff _ _).1 haf)
          clear haf
          go_wp2_with fail
          clear cA3 cB3
          have Z4 := HW.out.trans (R3.out.mono HW.out.size)
          refine (equalC_any w0 _ _ _ _ _ _ _ _ Arc.out Arc'.out Src.out Src'.out Prc.out _ Z4).mono ?_
          rintro e w4 ⟨rfl, b4⟩
          have R4 := Lib.hid (R3.out.trans (b4.mono R3.out.size))
          have KA4 := Lib.hid ((b4.block _ (heap_lt KA3.out)).trans KA3.out)
          have KB4 := Lib.hid ((b4.block _ (heap_lt KB3.out)).trans KB3.out)
          have cA4 := box_cells KA4.out
          have cB4 := box_cells KB4.out
          clear b4 Z4
          cases hrc : same rc rc' with
          | false =>
            have GH := Lib.hid (same_neq hrc)
            clear hrc
            go_wp2_with fail
            go_ret
            exact ⟨by rw [same_no (α := List D) (x := [.str nm, .row be, .row mi, .row af, .row rc, .row vr, .row rt, .row bd, .row en]) (y := [.str nm', .row be', .row mi', .row af', .row rc', .row vr', .row rt', .row bd', .row en']) (fun z => GH.out (D.row.inj (congrArg (fun z : List D => nth z 4) z)))]; rfl, R4.out⟩
          | true =>
            have Qrc := Lib.hid ((same_iff _ _).1 hrc)
            clear hrc
            go_wp2_with fail
            clear cA4 cB4
            have Z5 := HW.out.trans (R4.out.mono HW.out.size)
            refine (equalV_any w0 _ _ _ _ _ _ _ _ Avr.out Avr'.out Svr.out Svr'.out Pvr.out _ Z5).mono ?_
            rintro e w5 ⟨rfl, b5⟩
            have R5 := Lib.hid (R4.out.trans (b5.mono R4.out.size))
            have KA5 := Lib.hid ((b5.block _ (heap_lt KA4.out)).trans KA4.out)
            have KB5 := Lib.hid ((b5.block _ (heap_lt KB4.out)).trans KB4.out)
            have cA5 := box_cells KA5.out
            have cB5 := box_cells KB5.out
            clear b5 Z5
            cases hvr : same vr vr' with
            | false =>
              have GH := Lib.hid (same_neq hvr)
              clear hvr
              go_wp2_with fail
              go_ret
              exact ⟨by rw [same_no (α := List D) (x := [.str nm, .row be, .row mi, .row af, .row rc, .row vr, .row rt, .row bd, .row en]) (y := [.str nm', .row be', .row mi', .row af', .row rc', .row vr', .row rt', .row bd', .row en']) (fun z => GH.out (D.row.inj (congrArg (fun z : List D => nth z 5) z)))]; rfl, R5.out⟩
            | true =>
              have Qvr := Lib.hid ((same_iff _ _).1 hvr)
              clear hvr
              go_wp2_with fail
              clear cA5 cB5
              have Z6 := HW.out.trans (R5.out.mono HW.out.size)
              refine (equalR_any w0 _ _ _ _ _ _ _ _ Art.out Art'.out Srt.out Srt'.out Prt.out _ Z6).mono ?_
              rintro e w6 ⟨rfl, b6⟩
              have R6 := Lib.hid (R5.out.trans (b6.mono R5.out.size))
              have KA6 := Lib.hid ((b6.block _ (heap_lt KA5.out)).trans KA5.out)
              have KB6 := Lib.hid ((b6.block _ (heap_lt KB5.out)).trans KB5.out)
              have cA6 := box_cells KA6.out
              have cB6 := box_cells KB6.out
              clear b6 Z6
              cases hrt : same rt rt' with
              | false =>
                have GH := Lib.hid (same_neq hrt)
                clear hrt
                go_wp2_with fail
                go_ret
                exact ⟨by rw [same_no (α := List D) (x := [.str nm, .row be, .row mi, .row af, .row rc, .row vr, .row rt, .row bd, .row en]) (y := [.str nm', .row be', .row mi', .row af', .row rc', .row vr', .row rt', .row bd', .row en']) (fun z => GH.out (D.row.inj (congrArg (fun z : List D => nth z 6) z)))]; rfl, R6.out⟩
              | true =>
                have Qrt := Lib.hid ((same_iff _ _).1 hrt)
                clear hrt
                go_wp2_with fail
                clear cA6 cB6
                have Z7 := HW.out.trans (R6.out.mono HW.out.size)
                refine (equalS_any w0 _ _ _ _ _ _ _ _ Abd.out Abd'.out Sbd.out Sbd'.out Pbd.out _ Z7).mono ?_
                rintro e w7 ⟨rfl, b7⟩
                have R7 := Lib.hid (R6.out.trans (b7.mono R6.out.size))
                have KA7 := Lib.hid ((b7.block _ (heap_lt KA6.out)).trans KA6.out)
                have KB7 := Lib.hid ((b7.block _ (heap_lt KB6.out)).trans KB6.out)
                have cA7 := box_cells KA7.out
                have cB7 := box_cells KB7.out
                clear b7 Z7
                cases hbd : same bd bd' with
                | false =>
                  have GH := Lib.hid (same_neq hbd)
                  clear hbd
                  go_wp2_with fail
                  go_ret
                  exact ⟨by rw [same_no (α := List D) (x := [.str nm, .row be, .row mi, .row af, .row rc, .row vr, .row rt, .row bd, .row en]) (y := [.str nm', .row be', .row mi', .row af', .row rc', .row vr', .row rt', .row bd', .row en']) (fun z => GH.out (D.row.inj (congrArg (fun z : List D => nth z 7) z)))]; rfl, R7.out⟩
                | true =>
                  have Qbd := Lib.hid ((same_iff _ _).1 hbd)
                  clear hbd
                  go_wp2_with fail
                  clear cA7 cB7
                  have Z8 := HW.out.trans (R7.out.mono HW.out.size)
                  refine (equalT_any w0 _ _ _ _ _ _ _ _ Aen.out Aen'.out Sen.out Sen'.out _ Z8).mono ?_
                  rintro e w8 ⟨rfl, b8⟩
                  have R8 := Lib.hid (R7.out.trans (b8.mono R7.out.size))
                  have KA8 := Lib.hid ((b8.block _ (heap_lt KA7.out)).trans KA7.out)
                  have KB8 := Lib.hid ((b8.block _ (heap_lt KB7.out)).trans KB7.out)
                  have cA8 := box_cells KA8.out
                  have cB8 := box_cells KB8.out
                  clear b8 Z8
                  cases hen : same en en' with
                  | false =>
                    have GH := Lib.hid (same_neq hen)
                    clear hen
                    go_wp2_with fail
                    go_ret
                    exact ⟨by rw [same_no (α := List D) (x := [.str nm, .row be, .row mi, .row af, .row rc, .row vr, .row rt, .row bd, .row en]) (y := [.str nm', .row be', .row mi', .row af', .row rc', .row vr', .row rt', .row bd', .row en']) (fun z => GH.out (D.row.inj (congrArg (fun z : List D => nth z 8) z)))]; rfl, R8.out⟩
                  | true =>
                    have Qen := Lib.hid ((same_iff _ _).1 hen)
                    clear hen
                    have E := Lib.hid (show same (α := List D) [.str nm, .row be, .row mi, .row af, .row rc, .row vr, .row rt, .row bd, .row en] [.str nm', .row be', .row mi', .row af', .row rc', .row vr', .row rt', .row bd', .row en'] = true by
                      obtain rfl := Qnm.out
                      obtain rfl := Qbe.out
                      obtain rfl := Qmi.out
                      obtain rfl := Qaf.out
                      obtain rfl := Qrc.out
                      obtain rfl := Qvr.out
                      obtain rfl := Qrt.out
                      obtain rfl := Qbd.out
                      obtain rfl := Qen.out
                      exact same_refl _)
                    go_wp2_with fail
                    go_ret
                    exact ⟨by rw [E.out]; rfl, R8.out⟩
end Go.Proofs.YtciijpahjjoppaaGreat
