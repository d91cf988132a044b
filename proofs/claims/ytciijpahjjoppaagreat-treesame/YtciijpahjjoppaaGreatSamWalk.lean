/-
  TreeSame, walked.
-/
import Derived.Test.YtciijpahjjoppaaGreatRsg
import Derived.Test.YtciijpahjjoppaaGreatAwa
namespace Go.Proofs.YtciijpahjjoppaaGreat
open Go.RowKit Go.Deep Go.Sort

theorem box4 (w : World) (a b c d : Obj) : ((((w.alloc a).alloc b).alloc c).alloc d).heap[w.heap.size]? = some a ∧ ((((w.alloc a).alloc b).alloc c).alloc d).heap[w.heap.size + 1]? = some b ∧ ((((w.alloc a).alloc b).alloc c).alloc d).heap[w.heap.size + 1 + 1]? = some c ∧ ((((w.alloc a).alloc b).alloc c).alloc d).heap[w.heap.size + 1 + 1 + 1]? = some d := by
  have a3 := (Below.refl ((w.alloc a).alloc b).heap.size ((w.alloc a).alloc b)).alloc (Nat.le_refl _) c
  have a4 := (Below.refl (((w.alloc a).alloc b).alloc c).heap.size (((w.alloc a).alloc b).alloc c)).alloc (Nat.le_refl _) d
  have k3 := heap_new ((w.alloc a).alloc b) c
  have k4 := heap_new (((w.alloc a).alloc b).alloc c) d
  simp only [World.size_alloc] at k3 k4
  exact ⟨(a4.block _ (by simp only [World.size_alloc]; omega)).trans ((a3.block _ (by simp only [World.size_alloc]; omega)).trans (box_first w _ _)), (a4.block _ (by simp only [World.size_alloc]; omega)).trans ((a3.block _ (by simp only [World.size_alloc]; omega)).trans (box_second w _ _)), (a4.block _ (by simp only [World.size_alloc]; omega)).trans k3, k4⟩
set_option maxRecDepth 100000 in
set_option maxHeartbeats 8000000 in
theorem same_bools (w : World) (b1 b2 : Bool) (nm : ByteArray) (be mi af rc vr rt bd en : List (List D)) (bea mia afa rca vra rta bda ena : Option Addr) (bec mic afc rcc vrc rtc bdc enc : Nat) (nm' : ByteArray) (be' mi' af' rc' vr' rt' bd' en' : List (List D)) (bea' mia' afa' rca' vra' rta' bda' ena' : Option Addr) (bec' mic' afc' rcc' vrc' rtc' bdc' enc' : Nat) (nmo fdo : ByteArray) (opo no : Int) (klo : List (List D)) (klao : Option Addr) (klco : Nat) (nmp fdp : ByteArray) (opp np : Int) (klp : List (List D)) (klap : Option Addr) (klcp : Nat)
    (h1 : ∀ W, Below w.heap.size w W → Calls Tryz.prog 14 #[.agg #[.string nm, .slice bea be.length bec, .slice mia mi.length mic, .slice afa af.length afc, .slice rca rc.length rcc, .slice vra vr.length vrc, .slice rta rt.length rtc, .slice bda bd.length bdc, .slice ena en.length enc], .agg #[.string nm', .slice bea' be'.length bec', .slice mia' mi'.length mic', .slice afa' af'.length afc', .slice rca' rc'.length rcc', .slice vra' vr'.length vrc', .slice rta' rt'.length rtc', .slice bda' bd'.length bdc', .slice ena' en'.length enc']] W fun e W' => e = .returned (.bool b1) ∧ Below W.heap.size W W')
    (h2 : ∀ W, Below w.heap.size w W → Calls Tryz.prog 15 #[.agg #[.string nm, .slice bea be.length bec, .slice mia mi.length mic, .slice afa af.length afc, .slice rca rc.length rcc, .slice vra vr.length vrc, .slice rta rt.length rtc, .slice bda bd.length bdc, .slice ena en.length enc], .agg #[.string nm', .slice bea' be'.length bec', .slice mia' mi'.length mic', .slice afa' af'.length afc', .slice rca' rc'.length rcc', .slice vra' vr'.length vrc', .slice rta' rt'.length rtc', .slice bda' bd'.length bdc', .slice ena' en'.length enc']] W fun e W' => e = .returned (.bool b1) ∧ Below W.heap.size W W')
    (h3 : ∀ W, Below w.heap.size w W → Calls Tryz.prog 14 #[.agg #[.string nm, .slice bea be.length bec, .slice mia mi.length mic, .slice afa af.length afc, .slice rca rc.length rcc, .slice vra vr.length vrc, .slice rta rt.length rtc, .slice bda bd.length bdc, .slice ena en.length enc], .agg #[.string nm, .slice bea be.length bec, .slice mia mi.length mic, .slice afa af.length afc, .slice rca rc.length rcc, .slice vra vr.length vrc, .slice rta rt.length rtc, .slice bda bd.length bdc, .slice ena en.length enc]] W fun e W' => e = .returned (.bool true) ∧ Below W.heap.size W W')
    (h4 : ∀ W, Below w.heap.size w W → Calls Tryz.prog 16 #[.agg #[.int .i64 opo, .int .i64 no, .string nmo, .string fdo, .slice klao klo.length klco], .agg #[.int .i64 opp, .int .i64 np, .string nmp, .string fdp, .slice klap klp.length klcp]] W fun e W' => e = .returned (.bool b2) ∧ Below W.heap.size W W')
    (h5 : ∀ W, Below w.heap.size w W → Calls Tryz.prog 17 #[.agg #[.int .i64 opo, .int .i64 no, .string nmo, .string fdo, .slice klao klo.length klco], .agg #[.int .i64 opp, .int .i64 np, .string nmp, .string fdp, .slice klap klp.length klcp]] W fun e W' => e = .returned (.bool b2) ∧ Below W.heap.size W W')
    (h6 : ∀ W, Below w.heap.size w W → Calls Tryz.prog 16 #[.agg #[.int .i64 opo, .int .i64 no, .string nmo, .string fdo, .slice klao klo.length klco], .agg #[.int .i64 opo, .int .i64 no, .string nmo, .string fdo, .slice klao klo.length klco]] W fun e W' => e = .returned (.bool true) ∧ Below W.heap.size W W') :
    Calls Tryz.prog 5 #[.agg #[.string nm, .slice bea be.length bec, .slice mia mi.length mic, .slice afa af.length afc, .slice rca rc.length rcc, .slice vra vr.length vrc, .slice rta rt.length rtc, .slice bda bd.length bdc, .slice ena en.length enc], .agg #[.string nm', .slice bea' be'.length bec', .slice mia' mi'.length mic', .slice afa' af'.length afc', .slice rca' rc'.length rcc', .slice vra' vr'.length vrc', .slice rta' rt'.length rtc', .slice bda' bd'.length bdc', .slice ena' en'.length enc'], .agg #[.int .i64 opo, .int .i64 no, .string nmo, .string fdo, .slice klao klo.length klco], .agg #[.int .i64 opp, .int .i64 np, .string nmp, .string fdp, .slice klap klp.length klcp]] w fun e w' => e = .returned (.bool true) ∧ Below w.heap.size w w' := by
  obtain ⟨w2, hw2⟩ : ∃ w2, w2 = ((((w.alloc (.cells #[.string nm, .slice bea be.length bec, .slice mia mi.length mic, .slice afa af.length afc, .slice rca rc.length rcc, .slice vra vr.length vrc, .slice rta rt.length rtc, .slice bda bd.length bdc, .slice ena en.length enc] 35)).alloc (.cells #[.string nm', .slice bea' be'.length bec', .slice mia' mi'.length mic', .slice afa' af'.length afc', .slice rca' rc'.length rcc', .slice vra' vr'.length vrc', .slice rta' rt'.length rtc', .slice bda' bd'.length bdc', .slice ena' en'.length enc'] 35)).alloc (.cells #[.int .i64 opo, .int .i64 no, .string nmo, .string fdo, .slice klao klo.length klco] 24)).alloc (.cells #[.int .i64 opp, .int .i64 np, .string nmp, .string fdp, .slice klap klp.length klcp] 24)) := ⟨_, rfl⟩
  have B2 : Below w.heap.size w w2 := by rw [hw2]; exact ((((Below.refl _ w).alloc (Nat.le_refl _) _).alloc (by simp) _).alloc (by simp; omega) _).alloc (by simp; omega) _
  obtain ⟨k0, k1, k2, k3⟩ := box4 w (.cells #[.string nm, .slice bea be.length bec, .slice mia mi.length mic, .slice afa af.length afc, .slice rca rc.length rcc, .slice vra vr.length vrc, .slice rta rt.length rtc, .slice bda bd.length bdc, .slice ena en.length enc] 35) (.cells #[.string nm', .slice bea' be'.length bec', .slice mia' mi'.length mic', .slice afa' af'.length afc', .slice rca' rc'.length rcc', .slice vra' vr'.length vrc', .slice rta' rt'.length rtc', .slice bda' bd'.length bdc', .slice ena' en'.length enc'] 35) (.cells #[.int .i64 opo, .int .i64 no, .string nmo, .string fdo, .slice klao klo.length klco] 24) (.cells #[.int .i64 opp, .int .i64 np, .string nmp, .string fdp, .slice klap klp.length klcp] 24)
  rw [← hw2] at k0 k1 k2 k3
  have g1 : ∀ d os, Calls Tryz.prog 14 #[.agg #[.string nm, .slice bea be.length bec, .slice mia mi.length mic, .slice afa af.length afc, .slice rca rc.length rcc, .slice vra vr.length vrc, .slice rta rt.length rtc, .slice bda bd.length bdc, .slice ena en.length enc], .agg #[.string nm', .slice bea' be'.length bec', .slice mia' mi'.length mic', .slice afa' af'.length afc', .slice rca' rc'.length rcc', .slice vra' vr'.length vrc', .slice rta' rt'.length rtc', .slice bda' bd'.length bdc', .slice ena' en'.length enc']] (grow (redrawn w2 d) os) fun e w'' => e = .returned (.bool b1) ∧ ∃ p : Regrown, w'' = grow (redrawn w2 p.d) p.os := fun d os => Calls.regrown_of (h1 _ (B2.trans ((below_regrown w2 d os).mono B2.size)))
  have H1 := Lib.hid g1
  have g2 : ∀ d os, Calls Tryz.prog 15 #[.agg #[.string nm, .slice bea be.length bec, .slice mia mi.length mic, .slice afa af.length afc, .slice rca rc.length rcc, .slice vra vr.length vrc, .slice rta rt.length rtc, .slice bda bd.length bdc, .slice ena en.length enc], .agg #[.string nm', .slice bea' be'.length bec', .slice mia' mi'.length mic', .slice afa' af'.length afc', .slice rca' rc'.length rcc', .slice vra' vr'.length vrc', .slice rta' rt'.length rtc', .slice bda' bd'.length bdc', .slice ena' en'.length enc']] (grow (redrawn w2 d) os) fun e w'' => e = .returned (.bool b1) ∧ ∃ p : Regrown, w'' = grow (redrawn w2 p.d) p.os := fun d os => Calls.regrown_of (h2 _ (B2.trans ((below_regrown w2 d os).mono B2.size)))
  have H2 := Lib.hid g2
  have g3 : ∀ d os, Calls Tryz.prog 14 #[.agg #[.string nm, .slice bea be.length bec, .slice mia mi.length mic, .slice afa af.length afc, .slice rca rc.length rcc, .slice vra vr.length vrc, .slice rta rt.length rtc, .slice bda bd.length bdc, .slice ena en.length enc], .agg #[.string nm, .slice bea be.length bec, .slice mia mi.length mic, .slice afa af.length afc, .slice rca rc.length rcc, .slice vra vr.length vrc, .slice rta rt.length rtc, .slice bda bd.length bdc, .slice ena en.length enc]] (grow (redrawn w2 d) os) fun e w'' => e = .returned (.bool true) ∧ ∃ p : Regrown, w'' = grow (redrawn w2 p.d) p.os := fun d os => Calls.regrown_of (h3 _ (B2.trans ((below_regrown w2 d os).mono B2.size)))
  have H3 := Lib.hid g3
  have g4 : ∀ d os, Calls Tryz.prog 16 #[.agg #[.int .i64 opo, .int .i64 no, .string nmo, .string fdo, .slice klao klo.length klco], .agg #[.int .i64 opp, .int .i64 np, .string nmp, .string fdp, .slice klap klp.length klcp]] (grow (redrawn w2 d) os) fun e w'' => e = .returned (.bool b2) ∧ ∃ p : Regrown, w'' = grow (redrawn w2 p.d) p.os := fun d os => Calls.regrown_of (h4 _ (B2.trans ((below_regrown w2 d os).mono B2.size)))
  have H4 := Lib.hid g4
  have g5 : ∀ d os, Calls Tryz.prog 17 #[.agg #[.int .i64 opo, .int .i64 no, .string nmo, .string fdo, .slice klao klo.length klco], .agg #[.int .i64 opp, .int .i64 np, .string nmp, .string fdp, .slice klap klp.length klcp]] (grow (redrawn w2 d) os) fun e w'' => e = .returned (.bool b2) ∧ ∃ p : Regrown, w'' = grow (redrawn w2 p.d) p.os := fun d os => Calls.regrown_of (h5 _ (B2.trans ((below_regrown w2 d os).mono B2.size)))
  have H5 := Lib.hid g5
  have g6 : ∀ d os, Calls Tryz.prog 16 #[.agg #[.int .i64 opo, .int .i64 no, .string nmo, .string fdo, .slice klao klo.length klco], .agg #[.int .i64 opo, .int .i64 no, .string nmo, .string fdo, .slice klao klo.length klco]] (grow (redrawn w2 d) os) fun e w'' => e = .returned (.bool true) ∧ ∃ p : Regrown, w'' = grow (redrawn w2 p.d) p.os := fun d os => Calls.regrown_of (h6 _ (B2.trans ((below_regrown w2 d os).mono B2.size)))
  have H6 := Lib.hid g6
  have g7 : ∀ d os, Calls Tryz.prog 11 #[] (grow (redrawn w2 d) os) fun e w'' => e = .returned (.bool true) ∧ ∃ p : Regrown, w'' = grow (redrawn w2 p.d) p.os := fun d os => Calls.regrown_of (awake_any _)
  have H7 := Lib.hid g7
  have HB2 := Lib.hid B2
  have HW2 := Lib.hid hw2
  have r0 := cells_regrown k0
  have r1 := cells_regrown k1
  have r2 := cells_regrown k2
  have r3 := cells_regrown k3
  have e1 : (b1 == b1) = true := by cases b1 <;> rfl
  have e2 : (b2 == b2) = true := by cases b2 <;> rfl
  clear g1 g2 g3 g4 g5 g6 g7 h1 h2 h3 h4 h5 h6 B2 k0 k1 k2 k3 hw2
  go_enter Tryz.func5, Tryz.ntmps5
  go_wp2_with fail
  rw [← HW2.out]
  refine wp_region_quiet_below (by kernel_rfl) (by kernel_rfl) ?_
  repeat (first | go_big_quiet_step ((first | with_reducible exact H1.out _ _ | with_reducible exact H2.out _ _ | with_reducible exact H3.out _ _ | with_reducible exact H4.out _ _ | with_reducible exact H5.out _ _ | with_reducible exact H6.out _ _ | with_reducible exact H7.out _ _)) | quiet_step ((first | with_reducible exact H1.out _ _ | with_reducible exact H2.out _ _ | with_reducible exact H3.out _ _ | with_reducible exact H4.out _ _ | with_reducible exact H5.out _ _ | with_reducible exact H6.out _ _ | with_reducible exact H7.out _ _)))
  refine wpQuiet_nil ?_
  intro _ hw'
  obtain ⟨⟨dq, osq⟩, hw''⟩ := hw'
  subst hw''
  have BQ := Lib.hid (HB2.out.trans ((below_regrown w2 dq osq).mono HB2.out.size))
  clear r0 r1 r2 r3
  go_wp2_with fail
  go_ret
  exact ⟨rfl, BQ.out⟩
theorem treeSame_walk (w : World) (x y e f : List D) (hx : ShG x) (hy : ShG y) (he : ShE e) (hf : ShE f) (vs ws us ts : List Value) (hv : AllAt w vs x) (hw : AllAt w ws y) (hu : AllAt w us e) (ht : AllAt w ts f) :
    Calls Tryz.prog 5 #[.agg ⟨vs⟩, .agg ⟨ws⟩, .agg ⟨us⟩, .agg ⟨ts⟩] w fun e w' => e = .returned (.bool true) ∧ Below w.heap.size w w' := by
  have h1 := fun W hW => same_step w x y hx hy vs ws hv hw W hW
  have h2 := fun W hW => refSame_any w x y hx hy vs ws hv hw W hW
  have h3 := fun W hW => same_step w x x hx hx vs vs hv hv W hW
  have h4 := fun W hW => sameExpr_any w e f he hf us ts hu ht W hW
  have h5 := fun W hW => refExpr_any w e f he hf us ts hu ht W hW
  have h6 := fun W hW => sameExpr_any w e e he he us us hu hu W hW
  unfold EqPost at h1 h2 h3 h4 h5 h6
  rw [same_refl] at h3 h6
  generalize same x y = b1 at *
  generalize same e f = b2 at *
  obtain ⟨nm, be, mi, af, rc, vr, rt, bd, en, bea, bec, mia, mic, afa, afc, rca, rcc, vra, vrc, rta, rtc, bda, bdc, ena, enc, -, rfl, -⟩ := hv.openG hx
  obtain ⟨nm', be', mi', af', rc', vr', rt', bd', en', bea', bec', mia', mic', afa', afc', rca', rcc', vra', vrc', rta', rtc', bda', bdc', ena', enc', -, rfl, -⟩ := hw.openG hy
  obtain ⟨opo, no, nmo, fdo, klo, klao, klco, -, rfl, -⟩ := hu.openE he
  obtain ⟨opp, np, nmp, fdp, klp, klap, klcp, -, rfl, -⟩ := ht.openE hf
  exact same_bools w b1 b2 _ _ _ _ _ _ _ _ _ _ _ _ _ _ _ _ _ _ _ _ _ _ _ _ _ _ _ _ _ _ _ _ _ _ _ _ _ _ _ _ _ _ _ _ _ _ _ _ _ _ _ _ _ _ _ _ _ _ _ _ _ _ _ _ h1 h2 h3 h4 h5 h6
end Go.Proofs.YtciijpahjjoppaaGreat
