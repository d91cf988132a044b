/-
  TreeAlike, walked.
-/
import Derived.Test.YtciijpahjjoppaaGreatSmG
import Derived.Test.YtciijpahjjoppaaGreatAwa
import Derived.Lib.QuietBelow
namespace Go.Proofs.YtciijpahjjoppaaGreat
open Go.RowKit Go.Deep Go.Sort

theorem same_any (w0 : World) (x y : List D) (hx : ShG x) (hy : ShG y) (vs ws : List Value) (hv : AllAt w0 vs x) (hw : AllAt w0 ws y) (W : World) (hW : Below w0.heap.size w0 W) : Calls Tryz.prog 14 #[.agg ⟨vs⟩, .agg ⟨ws⟩] W (EqPost x y W) := same_step w0 x y hx hy vs ws hv hw W hW
theorem box3 (w : World) (a b c : Obj) : ((w.alloc a).alloc b).alloc c = ((w.alloc a).alloc b).alloc c ∧ (((w.alloc a).alloc b).alloc c).heap[w.heap.size]? = some a ∧ (((w.alloc a).alloc b).alloc c).heap[w.heap.size + 1]? = some b ∧ (((w.alloc a).alloc b).alloc c).heap[w.heap.size + 1 + 1]? = some c := by
  have a3 := (Below.refl ((w.alloc a).alloc b).heap.size ((w.alloc a).alloc b)).alloc (Nat.le_refl _) c
  refine ⟨rfl, (a3.block _ (by simp; omega)).trans (box_first w _ _), (a3.block _ (by simp)).trans (box_second w _ _), ?_⟩
  have := heap_new ((w.alloc a).alloc b) c
  simpa only [World.size_alloc] using this
theorem cells_regrown {w : World} {n : Nat} {cs : Array Value} {t : TypeId} {fz : Nat × Nat} (h : w.heap[n]? = some (.cells cs t fz)) (d : Nat) (os : Array Obj) (i : Nat) : (grow (redrawn w d) os).cell? ⟨n, i, none⟩ = cs[i]? := by
  rw [(below_regrown w d os).cell (p := ⟨n, i, none⟩) (heap_lt h)]
  exact box_cells h i
set_option maxRecDepth 100000 in
set_option maxHeartbeats 4000000 in
theorem alike_bools (w : World) (b1 b2 b3 : Bool) (hb : (b1 = true ∧ b2 = b3) ∨ b1 = false) (nm : ByteArray) (nm' : ByteArray) (nmo : ByteArray) (be mi af rc vr rt bd en : List (List D)) (be' mi' af' rc' vr' rt' bd' en' : List (List D)) (beo mio afo rco vro rto bdo eno : List (List D)) (bea mia afa rca vra rta bda ena : Option Addr) (bea' mia' afa' rca' vra' rta' bda' ena' : Option Addr) (beao miao afao rcao vrao rtao bdao enao : Option Addr) (bec mic afc rcc vrc rtc bdc enc : Nat) (bec' mic' afc' rcc' vrc' rtc' bdc' enc' : Nat) (beco mico afco rcco vrco rtco bdco enco : Nat)
    (h12 : ∀ W, Below w.heap.size w W → Calls Tryz.prog 14 #[.agg #[.string nm, .slice bea be.length bec, .slice mia mi.length mic, .slice afa af.length afc, .slice rca rc.length rcc, .slice vra vr.length vrc, .slice rta rt.length rtc, .slice bda bd.length bdc, .slice ena en.length enc], .agg #[.string nm', .slice bea' be'.length bec', .slice mia' mi'.length mic', .slice afa' af'.length afc', .slice rca' rc'.length rcc', .slice vra' vr'.length vrc', .slice rta' rt'.length rtc', .slice bda' bd'.length bdc', .slice ena' en'.length enc']] W fun e W' => e = .returned (.bool b1) ∧ Below W.heap.size W W')
    (h23 : ∀ W, Below w.heap.size w W → Calls Tryz.prog 14 #[.agg #[.string nm', .slice bea' be'.length bec', .slice mia' mi'.length mic', .slice afa' af'.length afc', .slice rca' rc'.length rcc', .slice vra' vr'.length vrc', .slice rta' rt'.length rtc', .slice bda' bd'.length bdc', .slice ena' en'.length enc'], .agg #[.string nmo, .slice beao beo.length beco, .slice miao mio.length mico, .slice afao afo.length afco, .slice rcao rco.length rcco, .slice vrao vro.length vrco, .slice rtao rto.length rtco, .slice bdao bdo.length bdco, .slice enao eno.length enco]] W fun e W' => e = .returned (.bool b2) ∧ Below W.heap.size W W')
    (h13 : ∀ W, Below w.heap.size w W → Calls Tryz.prog 14 #[.agg #[.string nm, .slice bea be.length bec, .slice mia mi.length mic, .slice afa af.length afc, .slice rca rc.length rcc, .slice vra vr.length vrc, .slice rta rt.length rtc, .slice bda bd.length bdc, .slice ena en.length enc], .agg #[.string nmo, .slice beao beo.length beco, .slice miao mio.length mico, .slice afao afo.length afco, .slice rcao rco.length rcco, .slice vrao vro.length vrco, .slice rtao rto.length rtco, .slice bdao bdo.length bdco, .slice enao eno.length enco]] W fun e W' => e = .returned (.bool b3) ∧ Below W.heap.size W W')
    (h21 : ∀ W, Below w.heap.size w W → Calls Tryz.prog 14 #[.agg #[.string nm', .slice bea' be'.length bec', .slice mia' mi'.length mic', .slice afa' af'.length afc', .slice rca' rc'.length rcc', .slice vra' vr'.length vrc', .slice rta' rt'.length rtc', .slice bda' bd'.length bdc', .slice ena' en'.length enc'], .agg #[.string nm, .slice bea be.length bec, .slice mia mi.length mic, .slice afa af.length afc, .slice rca rc.length rcc, .slice vra vr.length vrc, .slice rta rt.length rtc, .slice bda bd.length bdc, .slice ena en.length enc]] W fun e W' => e = .returned (.bool b1) ∧ Below W.heap.size W W') :
    Calls Tryz.prog 8 #[.agg #[.string nm, .slice bea be.length bec, .slice mia mi.length mic, .slice afa af.length afc, .slice rca rc.length rcc, .slice vra vr.length vrc, .slice rta rt.length rtc, .slice bda bd.length bdc, .slice ena en.length enc], .agg #[.string nm', .slice bea' be'.length bec', .slice mia' mi'.length mic', .slice afa' af'.length afc', .slice rca' rc'.length rcc', .slice vra' vr'.length vrc', .slice rta' rt'.length rtc', .slice bda' bd'.length bdc', .slice ena' en'.length enc'], .agg #[.string nmo, .slice beao beo.length beco, .slice miao mio.length mico, .slice afao afo.length afco, .slice rcao rco.length rcco, .slice vrao vro.length vrco, .slice rtao rto.length rtco, .slice bdao bdo.length bdco, .slice enao eno.length enco]] w fun e w' => e = .returned (.bool true) ∧ Below w.heap.size w w' := by
  have H21 := Lib.hid h21
  obtain ⟨w2, hw2⟩ : ∃ w2, w2 = (((w.alloc (.cells #[.string nm, .slice bea be.length bec, .slice mia mi.length mic, .slice afa af.length afc, .slice rca rc.length rcc, .slice vra vr.length vrc, .slice rta rt.length rtc, .slice bda bd.length bdc, .slice ena en.length enc] 35)).alloc (.cells #[.string nm', .slice bea' be'.length bec', .slice mia' mi'.length mic', .slice afa' af'.length afc', .slice rca' rc'.length rcc', .slice vra' vr'.length vrc', .slice rta' rt'.length rtc', .slice bda' bd'.length bdc', .slice ena' en'.length enc'] 35)).alloc (.cells #[.string nmo, .slice beao beo.length beco, .slice miao mio.length mico, .slice afao afo.length afco, .slice rcao rco.length rcco, .slice vrao vro.length vrco, .slice rtao rto.length rtco, .slice bdao bdo.length bdco, .slice enao eno.length enco] 35)) := ⟨_, rfl⟩
  have B2 : Below w.heap.size w w2 := by rw [hw2]; exact (((Below.refl _ w).alloc (Nat.le_refl _) _).alloc (by simp) _).alloc (by simp; omega) _
  obtain ⟨_, k0, k1, k2⟩ := box3 w (.cells #[.string nm, .slice bea be.length bec, .slice mia mi.length mic, .slice afa af.length afc, .slice rca rc.length rcc, .slice vra vr.length vrc, .slice rta rt.length rtc, .slice bda bd.length bdc, .slice ena en.length enc] 35) (.cells #[.string nm', .slice bea' be'.length bec', .slice mia' mi'.length mic', .slice afa' af'.length afc', .slice rca' rc'.length rcc', .slice vra' vr'.length vrc', .slice rta' rt'.length rtc', .slice bda' bd'.length bdc', .slice ena' en'.length enc'] 35) (.cells #[.string nmo, .slice beao beo.length beco, .slice miao mio.length mico, .slice afao afo.length afco, .slice rcao rco.length rcco, .slice vrao vro.length vrco, .slice rtao rto.length rtco, .slice bdao bdo.length bdco, .slice enao eno.length enco] 35)
  rw [← hw2] at k0 k1 k2
  have C12 : ∀ d os, Calls Tryz.prog 14 #[.agg #[.string nm, .slice bea be.length bec, .slice mia mi.length mic, .slice afa af.length afc, .slice rca rc.length rcc, .slice vra vr.length vrc, .slice rta rt.length rtc, .slice bda bd.length bdc, .slice ena en.length enc], .agg #[.string nm', .slice bea' be'.length bec', .slice mia' mi'.length mic', .slice afa' af'.length afc', .slice rca' rc'.length rcc', .slice vra' vr'.length vrc', .slice rta' rt'.length rtc', .slice bda' bd'.length bdc', .slice ena' en'.length enc']] (grow (redrawn w2 d) os) fun e w'' => e = .returned (.bool b1) ∧ ∃ p : Regrown, w'' = grow (redrawn w2 p.d) p.os := fun d os => Calls.regrown_of (h12 _ (B2.trans ((below_regrown w2 d os).mono B2.size)))
  have C23 : ∀ d os, Calls Tryz.prog 14 #[.agg #[.string nm', .slice bea' be'.length bec', .slice mia' mi'.length mic', .slice afa' af'.length afc', .slice rca' rc'.length rcc', .slice vra' vr'.length vrc', .slice rta' rt'.length rtc', .slice bda' bd'.length bdc', .slice ena' en'.length enc'], .agg #[.string nmo, .slice beao beo.length beco, .slice miao mio.length mico, .slice afao afo.length afco, .slice rcao rco.length rcco, .slice vrao vro.length vrco, .slice rtao rto.length rtco, .slice bdao bdo.length bdco, .slice enao eno.length enco]] (grow (redrawn w2 d) os) fun e w'' => e = .returned (.bool b2) ∧ ∃ p : Regrown, w'' = grow (redrawn w2 p.d) p.os := fun d os => Calls.regrown_of (h23 _ (B2.trans ((below_regrown w2 d os).mono B2.size)))
  have C13 : ∀ d os, Calls Tryz.prog 14 #[.agg #[.string nm, .slice bea be.length bec, .slice mia mi.length mic, .slice afa af.length afc, .slice rca rc.length rcc, .slice vra vr.length vrc, .slice rta rt.length rtc, .slice bda bd.length bdc, .slice ena en.length enc], .agg #[.string nmo, .slice beao beo.length beco, .slice miao mio.length mico, .slice afao afo.length afco, .slice rcao rco.length rcco, .slice vrao vro.length vrco, .slice rtao rto.length rtco, .slice bdao bdo.length bdco, .slice enao eno.length enco]] (grow (redrawn w2 d) os) fun e w'' => e = .returned (.bool b3) ∧ ∃ p : Regrown, w'' = grow (redrawn w2 p.d) p.os := fun d os => Calls.regrown_of (h13 _ (B2.trans ((below_regrown w2 d os).mono B2.size)))
  have H12 := Lib.hid C12
  have H23 := Lib.hid C23
  have H13 := Lib.hid C13
  have HB2 := Lib.hid B2
  have K0 := Lib.hid k0
  have K1 := Lib.hid k1
  have HW2 := Lib.hid hw2
  have r0 := cells_regrown k0
  have r1 := cells_regrown k1
  have r2 := cells_regrown k2
  have HBB := Lib.hid hb
  clear h12 h23 h13 h21 C12 C23 C13 B2 k0 k1 k2 hw2 hb
  go_enter Tryz.func8, Tryz.ntmps8
  go_wp2_with fail
  rw [← HW2.out]
  refine wp_region_quiet_below (by kernel_rfl) (by kernel_rfl) ?_
  repeat (first | go_big_quiet_step ((first | with_reducible exact H12.out _ _ | with_reducible exact H23.out _ _ | with_reducible exact H13.out _ _)) | quiet_step ((first | with_reducible exact H12.out _ _ | with_reducible exact H23.out _ _ | with_reducible exact H13.out _ _)))
  refine wpQuiet_nil ?_
  intro _ hw'
  obtain ⟨⟨dq, osq⟩, hw''⟩ := hw'
  subst hw''
  have q0 := r0 dq osq
  have q1 := r1 dq osq
  have BQ := Lib.hid (HB2.out.trans ((below_regrown w2 dq osq).mono HB2.out.size))
  clear r0 r1 r2
  generalize grow (redrawn w2 dq) osq = w3 at *
  go_wp2_with fail
  refine (H21.out _ BQ.out).mono ?_
  rintro e w4 ⟨rfl, b4⟩
  have R4 := Lib.hid (BQ.out.trans (b4.mono BQ.out.size))
  clear b4 q0 q1
  rcases HBB.out with ⟨rfl, rfl⟩ | rfl
  · cases b2 <;>
    · go_wp2_with fail
      refine (awake_any _).mono ?_
      rintro e w5 ⟨rfl, b5⟩
      have R5 := Lib.hid (R4.out.trans (b5.mono R4.out.size))
      clear b5
      go_wp2_with fail
      go_ret
      exact ⟨rfl, R5.out⟩
  · go_wp2_with fail
    refine (awake_any _).mono ?_
    rintro e w5 ⟨rfl, b5⟩
    have R5 := Lib.hid (R4.out.trans (b5.mono R4.out.size))
    clear b5
    go_wp2_with fail
    go_ret
    exact ⟨rfl, R5.out⟩
theorem treeAlike_walk (w : World) (x y z : List D) (hx : ShG x) (hy : ShG y) (hz : ShG z) (vs ws us : List Value) (hv : AllAt w vs x) (hw : AllAt w ws y) (hu : AllAt w us z) :
    Calls Tryz.prog 8 #[.agg ⟨vs⟩, .agg ⟨ws⟩, .agg ⟨us⟩] w fun e w' => e = .returned (.bool true) ∧ Below w.heap.size w w' := by
  have hb : (same x y = true ∧ same y z = same x z) ∨ same x y = false := by
    by_cases e : x = y
    · subst e; exact .inl ⟨same_refl _, rfl⟩
    · exact .inr (same_no e)
  have h12 := fun W hW => same_any w x y hx hy vs ws hv hw W hW
  have h23 := fun W hW => same_any w y z hy hz ws us hw hu W hW
  have h13 := fun W hW => same_any w x z hx hz vs us hv hu W hW
  have h21 := fun W hW => same_any w y x hy hx ws vs hw hv W hW
  unfold EqPost at h12 h23 h13 h21
  rw [same_comm y x] at h21
  generalize same x y = b1 at *
  generalize same y z = b2 at *
  generalize same x z = b3 at *
  obtain ⟨nm, be, mi, af, rc, vr, rt, bd, en, bea, bec, mia, mic, afa, afc, rca, rcc, vra, vrc, rta, rtc, bda, bdc, ena, enc, -, rfl, -⟩ := hv.openG hx
  obtain ⟨nm', be', mi', af', rc', vr', rt', bd', en', bea', bec', mia', mic', afa', afc', rca', rcc', vra', vrc', rta', rtc', bda', bdc', ena', enc', -, rfl, -⟩ := hw.openG hy
  obtain ⟨nmo, beo, mio, afo, rco, vro, rto, bdo, eno, beao, beco, miao, mico, afao, afco, rcao, rcco, vrao, vrco, rtao, rtco, bdao, bdco, enao, enco, -, rfl, -⟩ := hu.openG hz
  exact alike_bools w b1 b2 b3 hb _ _ _ _ _ _ _ _ _ _ _ _ _ _ _ _ _ _ _ _ _ _ _ _ _ _ _ _ _ _ _ _ _ _ _ _ _ _ _ _ _ _ _ _ _ _ _ _ _ _ _ _ _ _ _ _ _ _ _ _ _ _ _ _ _ _ _ _ _ _ _ _ _ _ _ h12 h23 h13 h21
end Go.Proofs.YtciijpahjjoppaaGreat
