/-
  Texts of this proof, put together.
-/
import Derived.Test.YtciijpahjjoppaaGreatPn10
import Derived.Test.YtciijpahjjoppaaGreatPn11
import Derived.Deep.RegionHeld3
section
namespace Go.Proofs.YtciijpahjjoppaaGreat
open Go.RowKit Go.Shelf Go.Deep
set_option maxRecDepth 100000 in
set_option maxHeartbeats 16000000 in
theorem tmG_any {σ : Type} {g : Nat} {c1 c2 : Value} (C : Clo σ g c1 c2) (hg : g = 50 ∨ g = 59) (hout : ∀ s x, x.size ≤ lim → (C.out s x).size ≤ lim) (w0 : World) (hlow : w0.heap.size ≤ C.low) (N : Nat) (x : List D) (hx : ShG x) (hb : mRow x ≤ 8000000) (hC : ∀ y, ShC y → mRow y ≤ mRow x → TFn C w0 89 (tC C) nC y) (hV : ∀ y, ShV y → mRow y ≤ mRow x → TFn C w0 91 (tV C) nV y) (hR : ∀ y, ShR y → mRow y ≤ mRow x → TFn C w0 93 (tR C N) (nR N) y) (hS : ∀ y, ShS y → mRow y ≤ mRow x → TFn C w0 95 (tS C N) (nS N) y) : TFn C w0 51 (tG C N) (nG N) x := by
  intro vs hv n m st W hm hI hW
  obtain ⟨nm, be, mi, af, rc, vr, rt, bd, en, bea, bec, mia, mic, afa, afc, rca, rcc, vra, vrc, rta, rtc, bda, bdc, ena, enc, rfl, rfl, i_nm, a_be, a_mi, a_af, a_rc, a_vr, a_rt, a_bd, a_en, t_be, t_mi, t_af, t_rc, t_vr, t_rt, t_bd, t_en⟩ := hv.openG hx
  have F_rc := Lib.hid (fun y (hy : y ∈ rc) => hC y (t_rc y hy) (by have := mRows_mem hy; simp only [mRow, mD]; omega))
  have F_vr := Lib.hid (fun y (hy : y ∈ vr) => hV y (t_vr y hy) (by have := mRows_mem hy; simp only [mRow, mD]; omega))
  have F_rt := Lib.hid (fun y (hy : y ∈ rt) => hR y (t_rt y hy) (by have := mRows_mem hy; simp only [mRow, mD]; omega))
  have F_bd := Lib.hid (fun y (hy : y ∈ bd) => hS y (t_bd y hy) (by have := mRows_mem hy; simp only [mRow, mD]; omega))
  simp only [mRow, mD] at hb
  have l_be : be.length ≤ 8000000 := by have := mRows_len be (fun y hy e => by rw [e] at hy; cases t_be _ hy); omega
  have l_mi : mi.length ≤ 8000000 := by have := mRows_len mi (fun y hy e => by rw [e] at hy; cases t_mi _ hy); omega
  have l_af : af.length ≤ 8000000 := by have := mRows_len af (fun y hy e => by rw [e] at hy; cases t_af _ hy); omega
  have l_rc : rc.length ≤ 8000000 := by have := mRows_len rc (fun y hy e => by rw [e] at hy; cases t_rc _ hy); omega
  have l_vr : vr.length ≤ 8000000 := by have := mRows_len vr (fun y hy e => by rw [e] at hy; cases t_vr _ hy); omega
  have l_rt : rt.length ≤ 8000000 := by have := mRows_len rt (fun y hy e => by rw [e] at hy; cases t_rt _ hy); omega
  have l_bd : bd.length ≤ 8000000 := by have := mRows_len bd (fun y hy e => by rw [e] at hy; cases t_bd _ hy); omega
  have l_en : en.length ≤ 8000000 := by have := mRows_len en (fun y hy e => by rw [e] at hy; cases t_en _ hy); omega
  have hm2 : n + ((parts nm).length + ((rc.flatMap nC).length + ((vr.flatMap nV).length + ((rt.flatMap (nR N)).length + ((bd.flatMap (nS N)).length + 0))))) ≤ m := by simp only [nG, List.length_append] at hm; omega
  have J0 := Lib.hid (BxD.start C hlow (T := 35) (cs := #[.string nm, .slice bea be.length bec, .slice mia mi.length mic, .slice afa af.length afc, .slice rca rc.length rcc, .slice vra vr.length vrc, .slice rta rt.length rtc, .slice bda bd.length bdc, .slice ena en.length enc]) (ds := [.str nm, .row be, .row mi, .row af, .row rc, .row vr, .row rt, .row bd, .row en]) (zs := #[.string ⟨#[]⟩, .slice none 0 0, .slice none 0 0, .slice none 0 0, .slice none 0 0, .slice none 0 0, .slice none 0 0, .slice none 0 0, .slice none 0 0]) rfl (C.atLeast hI hm2) hW hv)
  have HG := Lib.hid hg
  have HLW := Lib.hid hW.size
  have HLOW := Lib.hid hlow
  have HOUT := Lib.hid hout
  have HGR := Lib.hid (fun (V : World) (k : Kept C.O C.hi W V) => k.ground hI hlow hW)
  have A_be := Lib.hid a_be
  have T_be := Lib.hid t_be
  have A_mi := Lib.hid a_mi
  have T_mi := Lib.hid t_mi
  have A_af := Lib.hid a_af
  have T_af := Lib.hid t_af
  have A_rc := Lib.hid a_rc
  have T_rc := Lib.hid t_rc
  have A_vr := Lib.hid a_vr
  have T_vr := Lib.hid t_vr
  have A_rt := Lib.hid a_rt
  have T_rt := Lib.hid t_rt
  have A_bd := Lib.hid a_bd
  have T_bd := Lib.hid t_bd
  have A_en := Lib.hid a_en
  have T_en := Lib.hid t_en
  clear hI hg hW hlow hout hm hm2 hv hx a_be a_mi a_af a_rc a_vr a_rt a_bd a_en t_be t_mi t_af t_rc t_vr t_rt t_bd t_en hC hV hR hS
  go_enter Tryz.func51, Tryz.ntmps51
  go_wp2_with fail
  refine (name_any C HG.out (n + ((rc.flatMap nC).length + ((vr.flatMap nV).length + ((rt.flatMap (nR N)).length + ((bd.flatMap (nS N)).length + 0))))) st nm _ (C.atLeast J0.out.j.i (by omega)) (by unfold lim; omega)).mono ?_
  rintro e W1 ⟨rfl, i1, k1⟩
  have Q1 := Lib.hid (J0.out.called k1 i1)
  have M1 := Lib.hid (nm_le C HOUT.out st nm (by omega))
  clear i1 k1
  generalize hq1 : C.nm st nm = q1 at *
  have HQ1 := Lib.hid hq1
  clear hq1
  have cA1 := box_cells Q1.out.j.bt
  have cB1 : ∀ i, W1.cell? ⟨W.heap.size + 1, i, none⟩ = (#[.string nm, .slice bea be.length bec, .slice mia mi.length mic, .slice afa af.length afc, .slice rca rc.length rcc, .slice vra vr.length vrc, .slice rta rt.length rtc, .slice bda bd.length bdc, .slice ena en.length enc] : Array Value)[i]? := box_cells Q1.out.j.bx
  have fB1 := frozen_box Q1.out.j.bx
  go_wp2_with fail
  have R1 := Lib.hid (show BxD C w0.heap.size (n + ((rc.flatMap nC).length + ((vr.flatMap nV).length + ((rt.flatMap (nR N)).length + ((bd.flatMap (nS N)).length + 0))))) W q1.2 35 [.string q1.1, .slice bea be.length bec, .slice mia mi.length mic, .slice afa af.length afc, .slice rca rc.length rcc, .slice vra vr.length vrc, .slice rta rt.length rtc, .slice bda bd.length bdc, .slice ena en.length enc] [.str q1.1, .row be, .row mi, .row af, .row rc, .row vr, .row rt, .row bd, .row en] (W1.setCell ⟨W.heap.size + 1, 0, none⟩ (.string q1.1)) from Q1.out.set HLW.out 0 (.string q1.1) (.str q1.1) (.str _ M1.out))
  refine (tnotes_any C w0 HLOW.out bea be.length bec be A_be.out T_be.out l_be (n + ((rc.flatMap nC).length + ((vr.flatMap nV).length + ((rt.flatMap (nR N)).length + ((bd.flatMap (nS N)).length + 0))))) q1.2 _ R1.out.j.i (HGR.out _ R1.out.j.kept)).mono ?_
  rintro e W2 ⟨p2, o2, rfl, d2, i2, k2⟩
  have Q2 := Lib.hid (R1.out.called k2 i2)
  have M2 := Lib.hid (d2.sub (newN_less R1.out.j.sz))
  clear i2 k2 d2 cA1 cB1 fB1
  have cA2 := box_cells Q2.out.j.bt
  have cB2 : ∀ i, W2.cell? ⟨W.heap.size + 1, i, none⟩ = (#[.string q1.1, .slice bea be.length bec, .slice mia mi.length mic, .slice afa af.length afc, .slice rca rc.length rcc, .slice vra vr.length vrc, .slice rta rt.length rtc, .slice bda bd.length bdc, .slice ena en.length enc] : Array Value)[i]? := box_cells Q2.out.j.bx
  have fB2 := frozen_box Q2.out.j.bx
  go_wp2_with fail
  have R2 := Lib.hid (show BxD C w0.heap.size (n + ((rc.flatMap nC).length + ((vr.flatMap nV).length + ((rt.flatMap (nR N)).length + ((bd.flatMap (nS N)).length + 0))))) W q1.2 35 [.string q1.1, .slice p2 be.length o2, .slice mia mi.length mic, .slice afa af.length afc, .slice rca rc.length rcc, .slice vra vr.length vrc, .slice rta rt.length rtc, .slice bda bd.length bdc, .slice ena en.length enc] [.str q1.1, .row be, .row mi, .row af, .row rc, .row vr, .row rt, .row bd, .row en] (W2.setCell ⟨W.heap.size + 1, 1, none⟩ (.slice p2 be.length o2)) from Q2.out.set HLW.out 1 (.slice p2 be.length o2) (.row be) M2.out)
  refine (tnotes_any C w0 HLOW.out mia mi.length mic mi A_mi.out T_mi.out l_mi (n + ((rc.flatMap nC).length + ((vr.flatMap nV).length + ((rt.flatMap (nR N)).length + ((bd.flatMap (nS N)).length + 0))))) q1.2 _ R2.out.j.i (HGR.out _ R2.out.j.kept)).mono ?_
  rintro e W3 ⟨p3, o3, rfl, d3, i3, k3⟩
  have Q3 := Lib.hid (R2.out.called k3 i3)
  have M3 := Lib.hid (d3.sub (newN_less R2.out.j.sz))
  clear i3 k3 d3 cA2 cB2 fB2
  have cA3 := box_cells Q3.out.j.bt
  have cB3 : ∀ i, W3.cell? ⟨W.heap.size + 1, i, none⟩ = (#[.string q1.1, .slice p2 be.length o2, .slice mia mi.length mic, .slice afa af.length afc, .slice rca rc.length rcc, .slice vra vr.length vrc, .slice rta rt.length rtc, .slice bda bd.length bdc, .slice ena en.length enc] : Array Value)[i]? := box_cells Q3.out.j.bx
  have fB3 := frozen_box Q3.out.j.bx
  go_wp2_with fail
  have R3 := Lib.hid (show BxD C w0.heap.size (n + ((rc.flatMap nC).length + ((vr.flatMap nV).length + ((rt.flatMap (nR N)).length + ((bd.flatMap (nS N)).length + 0))))) W q1.2 35 [.string q1.1, .slice p2 be.length o2, .slice p3 mi.length o3, .slice afa af.length afc, .slice rca rc.length rcc, .slice vra vr.length vrc, .slice rta rt.length rtc, .slice bda bd.length bdc, .slice ena en.length enc] [.str q1.1, .row be, .row mi, .row af, .row rc, .row vr, .row rt, .row bd, .row en] (W3.setCell ⟨W.heap.size + 1, 2, none⟩ (.slice p3 mi.length o3)) from Q3.out.set HLW.out 2 (.slice p3 mi.length o3) (.row mi) M3.out)
  refine (tnotes_any C w0 HLOW.out afa af.length afc af A_af.out T_af.out l_af (n + ((rc.flatMap nC).length + ((vr.flatMap nV).length + ((rt.flatMap (nR N)).length + ((bd.flatMap (nS N)).length + 0))))) q1.2 _ R3.out.j.i (HGR.out _ R3.out.j.kept)).mono ?_
  rintro e W4 ⟨p4, o4, rfl, d4, i4, k4⟩
  have Q4 := Lib.hid (R3.out.called k4 i4)
  have M4 := Lib.hid (d4.sub (newN_less R3.out.j.sz))
  clear i4 k4 d4 cA3 cB3 fB3
  have cA4 := box_cells Q4.out.j.bt
  have cB4 : ∀ i, W4.cell? ⟨W.heap.size + 1, i, none⟩ = (#[.string q1.1, .slice p2 be.length o2, .slice p3 mi.length o3, .slice afa af.length afc, .slice rca rc.length rcc, .slice vra vr.length vrc, .slice rta rt.length rtc, .slice bda bd.length bdc, .slice ena en.length enc] : Array Value)[i]? := box_cells Q4.out.j.bx
  have fB4 := frozen_box Q4.out.j.bx
  go_wp2_with fail
  have R4 := Lib.hid (show BxD C w0.heap.size (n + ((rc.flatMap nC).length + ((vr.flatMap nV).length + ((rt.flatMap (nR N)).length + ((bd.flatMap (nS N)).length + 0))))) W q1.2 35 [.string q1.1, .slice p2 be.length o2, .slice p3 mi.length o3, .slice p4 af.length o4, .slice rca rc.length rcc, .slice vra vr.length vrc, .slice rta rt.length rtc, .slice bda bd.length bdc, .slice ena en.length enc] [.str q1.1, .row be, .row mi, .row af, .row rc, .row vr, .row rt, .row bd, .row en] (W4.setCell ⟨W.heap.size + 1, 3, none⟩ (.slice p4 af.length o4)) from Q4.out.set HLW.out 3 (.slice p4 af.length o4) (.row af) M4.out)
  refine (turnC_any C w0 HLOW.out (tC C) nC rca rc.length rcc rc A_rc.out T_rc.out l_rc F_rc.out (fun y hy s => tC_len C s (T_rc.out y hy)) (n + ((vr.flatMap nV).length + ((rt.flatMap (nR N)).length + ((bd.flatMap (nS N)).length + 0)))) _ q1.2 (by omega) _ R4.out.j.i (HGR.out _ R4.out.j.kept)).mono ?_
  rintro e W5 ⟨p5, o5, rfl, d5, i5, k5⟩
  have Q5 := Lib.hid (R4.out.called k5 i5)
  have M5 := Lib.hid (d5.sub (newN_less R4.out.j.sz))
  clear i5 k5 d5 cA4 cB4 fB4
  generalize hq2 : turnL (tC C) q1.2 rc = q2 at *
  have HQ2 := Lib.hid hq2
  clear hq2
  have cA5 := box_cells Q5.out.j.bt
  have cB5 : ∀ i, W5.cell? ⟨W.heap.size + 1, i, none⟩ = (#[.string q1.1, .slice p2 be.length o2, .slice p3 mi.length o3, .slice p4 af.length o4, .slice rca rc.length rcc, .slice vra vr.length vrc, .slice rta rt.length rtc, .slice bda bd.length bdc, .slice ena en.length enc] : Array Value)[i]? := box_cells Q5.out.j.bx
  have fB5 := frozen_box Q5.out.j.bx
  go_wp2_with fail
  have R5 := Lib.hid (show BxD C w0.heap.size (n + ((vr.flatMap nV).length + ((rt.flatMap (nR N)).length + ((bd.flatMap (nS N)).length + 0)))) W q2.2 35 [.string q1.1, .slice p2 be.length o2, .slice p3 mi.length o3, .slice p4 af.length o4, .slice p5 q2.1.length o5, .slice vra vr.length vrc, .slice rta rt.length rtc, .slice bda bd.length bdc, .slice ena en.length enc] [.str q1.1, .row be, .row mi, .row af, .row q2.1, .row vr, .row rt, .row bd, .row en] (W5.setCell ⟨W.heap.size + 1, 4, none⟩ (.slice p5 q2.1.length o5)) from Q5.out.set HLW.out 4 (.slice p5 q2.1.length o5) (.row q2.1) M5.out)
  refine (turnV_any C w0 HLOW.out (tV C) nV vra vr.length vrc vr A_vr.out T_vr.out l_vr F_vr.out (fun y hy s => tV_len C s (T_vr.out y hy)) (n + ((rt.flatMap (nR N)).length + ((bd.flatMap (nS N)).length + 0))) _ q2.2 (by omega) _ R5.out.j.i (HGR.out _ R5.out.j.kept)).mono ?_
  rintro e W6 ⟨p6, o6, rfl, d6, i6, k6⟩
  have Q6 := Lib.hid (R5.out.called k6 i6)
  have M6 := Lib.hid (d6.sub (newN_less R5.out.j.sz))
  clear i6 k6 d6 cA5 cB5 fB5
  generalize hq3 : turnL (tV C) q2.2 vr = q3 at *
  have HQ3 := Lib.hid hq3
  clear hq3
  have cA6 := box_cells Q6.out.j.bt
  have cB6 : ∀ i, W6.cell? ⟨W.heap.size + 1, i, none⟩ = (#[.string q1.1, .slice p2 be.length o2, .slice p3 mi.length o3, .slice p4 af.length o4, .slice p5 q2.1.length o5, .slice vra vr.length vrc, .slice rta rt.length rtc, .slice bda bd.length bdc, .slice ena en.length enc] : Array Value)[i]? := box_cells Q6.out.j.bx
  have fB6 := frozen_box Q6.out.j.bx
  go_wp2_with fail
  have R6 := Lib.hid (show BxD C w0.heap.size (n + ((rt.flatMap (nR N)).length + ((bd.flatMap (nS N)).length + 0))) W q3.2 35 [.string q1.1, .slice p2 be.length o2, .slice p3 mi.length o3, .slice p4 af.length o4, .slice p5 q2.1.length o5, .slice p6 q3.1.length o6, .slice rta rt.length rtc, .slice bda bd.length bdc, .slice ena en.length enc] [.str q1.1, .row be, .row mi, .row af, .row q2.1, .row q3.1, .row rt, .row bd, .row en] (W6.setCell ⟨W.heap.size + 1, 5, none⟩ (.slice p6 q3.1.length o6)) from Q6.out.set HLW.out 5 (.slice p6 q3.1.length o6) (.row q3.1) M6.out)
  refine (turnR_any C w0 HLOW.out (tR C N) (nR N) rta rt.length rtc rt A_rt.out T_rt.out l_rt F_rt.out (fun y hy s => tR_len C N s (T_rt.out y hy)) (n + ((bd.flatMap (nS N)).length + 0)) _ q3.2 (by omega) _ R6.out.j.i (HGR.out _ R6.out.j.kept)).mono ?_
  rintro e W7 ⟨p7, o7, rfl, d7, i7, k7⟩
  have Q7 := Lib.hid (R6.out.called k7 i7)
  have M7 := Lib.hid (d7.sub (newN_less R6.out.j.sz))
  clear i7 k7 d7 cA6 cB6 fB6
  generalize hq4 : turnL (tR C N) q3.2 rt = q4 at *
  have HQ4 := Lib.hid hq4
  clear hq4
  have cA7 := box_cells Q7.out.j.bt
  have cB7 : ∀ i, W7.cell? ⟨W.heap.size + 1, i, none⟩ = (#[.string q1.1, .slice p2 be.length o2, .slice p3 mi.length o3, .slice p4 af.length o4, .slice p5 q2.1.length o5, .slice p6 q3.1.length o6, .slice rta rt.length rtc, .slice bda bd.length bdc, .slice ena en.length enc] : Array Value)[i]? := box_cells Q7.out.j.bx
  have fB7 := frozen_box Q7.out.j.bx
  go_wp2_with fail
  have R7 := Lib.hid (show BxD C w0.heap.size (n + ((bd.flatMap (nS N)).length + 0)) W q4.2 35 [.string q1.1, .slice p2 be.length o2, .slice p3 mi.length o3, .slice p4 af.length o4, .slice p5 q2.1.length o5, .slice p6 q3.1.length o6, .slice p7 q4.1.length o7, .slice bda bd.length bdc, .slice ena en.length enc] [.str q1.1, .row be, .row mi, .row af, .row q2.1, .row q3.1, .row q4.1, .row bd, .row en] (W7.setCell ⟨W.heap.size + 1, 6, none⟩ (.slice p7 q4.1.length o7)) from Q7.out.set HLW.out 6 (.slice p7 q4.1.length o7) (.row q4.1) M7.out)
  refine (turnS_any C w0 HLOW.out (tS C N) (nS N) bda bd.length bdc bd A_bd.out T_bd.out l_bd F_bd.out (fun y hy s => tS_len C N s (T_bd.out y hy)) (n + 0) _ q4.2 (by omega) _ R7.out.j.i (HGR.out _ R7.out.j.kept)).mono ?_
  rintro e W8 ⟨p8, o8, rfl, d8, i8, k8⟩
  have Q8 := Lib.hid (R7.out.called k8 i8)
  have M8 := Lib.hid (d8.sub (newN_less R7.out.j.sz))
  clear i8 k8 d8 cA7 cB7 fB7
  generalize hq5 : turnL (tS C N) q4.2 bd = q5 at *
  have HQ5 := Lib.hid hq5
  clear hq5
  have cA8 := box_cells Q8.out.j.bt
  have cB8 : ∀ i, W8.cell? ⟨W.heap.size + 1, i, none⟩ = (#[.string q1.1, .slice p2 be.length o2, .slice p3 mi.length o3, .slice p4 af.length o4, .slice p5 q2.1.length o5, .slice p6 q3.1.length o6, .slice p7 q4.1.length o7, .slice bda bd.length bdc, .slice ena en.length enc] : Array Value)[i]? := box_cells Q8.out.j.bx
  have fB8 := frozen_box Q8.out.j.bx
  go_wp2_with fail
  have R8 := Lib.hid (show BxD C w0.heap.size (n + 0) W q5.2 35 [.string q1.1, .slice p2 be.length o2, .slice p3 mi.length o3, .slice p4 af.length o4, .slice p5 q2.1.length o5, .slice p6 q3.1.length o6, .slice p7 q4.1.length o7, .slice p8 q5.1.length o8, .slice ena en.length enc] [.str q1.1, .row be, .row mi, .row af, .row q2.1, .row q3.1, .row q4.1, .row q5.1, .row en] (W8.setCell ⟨W.heap.size + 1, 7, none⟩ (.slice p8 q5.1.length o8)) from Q8.out.set HLW.out 7 (.slice p8 q5.1.length o8) (.row q5.1) M8.out)
  refine (tnotes_any C w0 HLOW.out ena en.length enc en A_en.out T_en.out l_en (n + 0) q5.2 _ R8.out.j.i (HGR.out _ R8.out.j.kept)).mono ?_
  rintro e W9 ⟨p9, o9, rfl, d9, i9, k9⟩
  have Q9 := Lib.hid (R8.out.called k9 i9)
  have M9 := Lib.hid (d9.sub (newN_less R8.out.j.sz))
  clear i9 k9 d9 cA8 cB8 fB8
  have cA9 := box_cells Q9.out.j.bt
  have cB9 : ∀ i, W9.cell? ⟨W.heap.size + 1, i, none⟩ = (#[.string q1.1, .slice p2 be.length o2, .slice p3 mi.length o3, .slice p4 af.length o4, .slice p5 q2.1.length o5, .slice p6 q3.1.length o6, .slice p7 q4.1.length o7, .slice p8 q5.1.length o8, .slice ena en.length enc] : Array Value)[i]? := box_cells Q9.out.j.bx
  have fB9 := frozen_box Q9.out.j.bx
  have R9 := Lib.hid (show BxD C w0.heap.size (n + 0) W q5.2 35 [.string q1.1, .slice p2 be.length o2, .slice p3 mi.length o3, .slice p4 af.length o4, .slice p5 q2.1.length o5, .slice p6 q3.1.length o6, .slice p7 q4.1.length o7, .slice p8 q5.1.length o8, .slice p9 en.length o9] [.str q1.1, .row be, .row mi, .row af, .row q2.1, .row q3.1, .row q4.1, .row q5.1, .row en] (W9.setCell ⟨W.heap.size + 1, 8, none⟩ (.slice p9 en.length o9)) from Q9.out.set HLW.out 8 (.slice p9 en.length o9) (.row en) M9.out)
  have CL := Lib.hid (show ∀ (i : Nat) (v : Value), ([.string q1.1, .slice p2 be.length o2, .slice p3 mi.length o3, .slice p4 af.length o4, .slice p5 q2.1.length o5, .slice p6 q3.1.length o6, .slice p7 q4.1.length o7, .slice p8 q5.1.length o8, .slice p9 en.length o9] : List Value)[i]? = some v → (W9.setCell ⟨W.heap.size + 1, 8, none⟩ (.slice p9 en.length o9)).cell? ⟨W.heap.size + 1, 0 + i, none⟩ = some v from fun i v hv => by rw [box_cells R9.out.j.bx, Nat.zero_add]; simpa using hv)
  obtain ⟨zs, z1, z2⟩ := R9.out.j.br
  have Z1 := Lib.hid (show zs.length = 9 from z1)
  have LN := Lib.hid (show ([.string q1.1, .slice p2 be.length o2, .slice p3 mi.length o3, .slice p4 af.length o4, .slice p5 q2.1.length o5, .slice p6 q3.1.length o6, .slice p7 q4.1.length o7, .slice p8 q5.1.length o8, .slice p9 en.length o9] : List Value).length = 9 from rfl)
  have ON := Lib.hid (show ∀ v ∈ ([.string q1.1, .slice p2 be.length o2, .slice p3 mi.length o3, .slice p4 af.length o4, .slice p5 q2.1.length o5, .slice p6 q3.1.length o6, .slice p7 q4.1.length o7, .slice p8 q5.1.length o8, .slice p9 en.length o9] : List Value), v.oneCell' = true from AllAt.one R9.out.d)
  have Z2 := Lib.hid z2
  clear z1 z2
  go_wp2_with (first
    | ((with_reducible refine wp_loadAgg (o := ⟨some 54, _, _, _, _, _⟩) rfl (.tmp 3) 35 rfl 9 Tryz.isAgg35 Tryz.sizeOf35 (W.heap.size + 1) 0 ?_ [.string q1.1, .slice p2 be.length o2, .slice p3 mi.length o3, .slice p4 af.length o4, .slice p5 q2.1.length o5, .slice p6 q3.1.length o6, .slice p7 q4.1.length o7, .slice p8 q5.1.length o8, .slice p9 en.length o9] LN.out CL.out ?_); rfl)
    | ((with_reducible refine wp_storeOld (o := ⟨none, .store 35 (.tmp 4) (.tmp 54), _, _, _, _⟩) rfl (.tmp 4) (.tmp 54) 35 rfl 9 Tryz.sizeOf35 (W.heap.size + 2) zs Z1.out 35 Z2.out ?_ [.string q1.1, .slice p2 be.length o2, .slice p3 mi.length o3, .slice p4 af.length o4, .slice p5 q2.1.length o5, .slice p6 q3.1.length o6, .slice p7 q4.1.length o7, .slice p8 q5.1.length o8, .slice p9 en.length o9] ?_ LN.out ON.out ?_); rfl; rfl))
  refine bodyPost_ret (v := .agg ⟨[.string q1.1, .slice p2 be.length o2, .slice p3 mi.length o3, .slice p4 af.length o4, .slice p5 q2.1.length o5, .slice p6 q3.1.length o6, .slice p7 q4.1.length o7, .slice p8 q5.1.length o8, .slice p9 en.length o9]⟩) ?_ rfl ?_
  · exact results_cell (i := 4) (b := W.heap.size + 2) Tryz.results51 Tryz.isAgg35 Tryz.sizeOf35 rfl rfl R9.out.j.last.1
  · have HO : tG C N st [.str nm, .row be, .row mi, .row af, .row rc, .row vr, .row rt, .row bd, .row en] = ([.str q1.1, .row be, .row mi, .row af, .row q2.1, .row q3.1, .row q4.1, .row q5.1, .row en], q5.2) := by
      show (([.str (C.nm st nm).1, .row be, .row mi, .row af, .row (turnL (tC C) (C.nm st nm).2 rc).1, .row (turnL (tV C) (turnL (tC C) (C.nm st nm).2 rc).2 vr).1, .row (turnL (tR C N) (turnL (tV C) (turnL (tC C) (C.nm st nm).2 rc).2 vr).2 rt).1, .row (turnL (tS C N) (turnL (tR C N) (turnL (tV C) (turnL (tC C) (C.nm st nm).2 rc).2 vr).2 rt).2 bd).1, .row en] : List D), (turnL (tS C N) (turnL (tR C N) (turnL (tV C) (turnL (tC C) (C.nm st nm).2 rc).2 vr).2 rt).2 bd).2) = _
      rw [HQ1.out, HQ2.out, HQ3.out, HQ4.out, HQ5.out]
    rw [HO]
    exact ⟨[.string q1.1, .slice p2 be.length o2, .slice p3 mi.length o3, .slice p4 af.length o4, .slice p5 q2.1.length o5, .slice p6 q3.1.length o6, .slice p7 q4.1.length o7, .slice p8 q5.1.length o8, .slice p9 en.length o9], rfl, R9.out.last HLW.out, R9.out.j.last.2.1, R9.out.j.last.2.2⟩
end Go.Proofs.YtciijpahjjoppaaGreat
end
section
namespace Go.Proofs.YtciijpahjjoppaaGreat
open Go.RowKit Go.Shelf Go.Deep

theorem mRow_sub : ∀ {x : List D} {l : List (List D)}, D.row l ∈ x → mRows l + 1 ≤ mRow x
  | d :: r, l, h => by
    rcases List.mem_cons.1 h with rfl | h
    · simp only [mRow, mD]; omega
    · have := mRow_sub h
      simp only [mRow]; omega
section
variable {σ : Type} {g : Nat} {c1 c2 : Value} (C : Clo σ g c1 c2) (hg : g = 50 ∨ g = 59) (hout : ∀ s x, x.size ≤ lim → (C.out s x).size ≤ lim) (w0 : World) (hlow : w0.heap.size ≤ C.low)
include hg hout hlow
theorem texpr_all : ∀ (N : Nat) (x : List D), ShE x → mRow x < N → mRow x ≤ 8000000 → TFn C w0 130 (tE C N) (nE N) x
  | 0, _, _, h, _ => absurd h (Nat.not_lt_zero _)
  | N + 1, x, hx, h, hb => tmE_any C hg hout w0 hlow N x hx hb fun l hl hs y hy => by
    have h1 := mRow_sub hl
    have h2 := mRows_mem hy
    exact texpr_all N y (hs y hy) (by omega) (by omega)
theorem tstmt_all : ∀ (N : Nat) (x : List D), ShS x → mRow x < N → mRow x ≤ 8000000 → TFn C w0 95 (tS C N) (nS N) x
  | 0, _, _, h, _ => absurd h (Nat.not_lt_zero _)
  | N + 1, x, hx, h, hb => tmS_any C hg hout w0 hlow N x hx hb (fun y hy hm => texpr_all C hg hout w0 hlow (N + 1) y hy (by omega) (by omega)) fun l hl hs y hy => by
    have h1 := mRow_sub hl
    have h2 := mRows_mem hy
    exact tstmt_all N y (hs y hy) (by omega) (by omega)
theorem tfield_all (x : List D) (hx : ShF x) (hb : mRow x ≤ 8000000) : TFn C w0 127 (tF C) nF x := tmF_any C hg hout w0 hlow x hx hb
theorem tvar_all (x : List D) (hx : ShV x) (hb : mRow x ≤ 8000000) : TFn C w0 91 (tV C) nV x := tmV_any C hg hout w0 hlow x hx hb
theorem tparam_all (x : List D) (hx : ShP x) (hb : mRow x ≤ 8000000) : TFn C w0 129 (tP C) nP x := tmP_any C hg hout w0 hlow x hx hb
theorem trec_all (x : List D) (hx : ShC x) (hb : mRow x ≤ 8000000) : TFn C w0 89 (tC C) nC x :=
  tmC_any C hg hout w0 hlow x hx hb fun y hy hm => tfield_all C hg hout w0 hlow y hy (by omega)
theorem troutine_all : ∀ (N : Nat) (x : List D), ShR x → mRow x < N → mRow x ≤ 8000000 → TFn C w0 93 (tR C N) (nR N) x
  | 0, _, _, h, _ => absurd h (Nat.not_lt_zero _)
  | N + 1, x, hx, h, hb => tmR_any C hg hout w0 hlow N x hx hb (fun y hy hm => tparam_all C hg hout w0 hlow y hy (by omega)) (fun y hy hm => tvar_all C hg hout w0 hlow y hy (by omega)) (fun l hl hs y hy => by
    have h1 := mRow_sub hl
    have h2 := mRows_mem hy
    exact troutine_all N y (hs y hy) (by omega) (by omega)) fun y hy hm => tstmt_all C hg hout w0 hlow (N + 1) y hy (by omega) (by omega)
theorem tprogram_all (N : Nat) (x : List D) (hx : ShG x) (h : mRow x < N) (hb : mRow x ≤ 8000000) : TFn C w0 51 (tG C N) (nG N) x :=
  tmG_any C hg hout w0 hlow N x hx hb (fun y hy hm => trec_all C hg hout w0 hlow y hy (by omega)) (fun y hy hm => tvar_all C hg hout w0 hlow y hy (by omega)) (fun y hy hm => troutine_all C hg hout w0 hlow N y hy (by omega) (by omega)) fun y hy hm => tstmt_all C hg hout w0 hlow N y hy (by omega) (by omega)
end
theorem flat_len {h : List D → List ByteArray} : ∀ (l : List (List D)), (∀ x ∈ l, (h x).length ≤ mRow x) → (l.flatMap h).length ≤ mRows l
  | [], _ => by simp
  | x :: l, hl => by
    have h1 := hl x (by simp)
    have h2 := flat_len l (fun y hy => hl y (by simp [hy]))
    rw [List.flatMap_cons, List.length_append]
    simp only [mRows]
    omega
theorem flat_sz {h : List D → List ByteArray} {B : Nat} : ∀ (l : List (List D)), (∀ x ∈ l, ∀ p ∈ h x, p.size ≤ mRow x) → mRows l ≤ B → ∀ p ∈ l.flatMap h, p.size ≤ B
  | [], _, _, p, hp => by simp at hp
  | x :: l, hl, hB, p, hp => by
    simp only [mRows] at hB
    rw [List.flatMap_cons, List.mem_append] at hp
    rcases hp with hp | hp
    · have := hl x (by simp) p hp; omega
    · exact flat_sz l (fun y hy => hl y (by simp [hy])) (by omega) p hp
theorem nF_ok {x : List D} (hx : ShF x) : (nF x).length ≤ mRow x ∧ ∀ p ∈ nF x, p.size ≤ mRow x := by
  cases hx with
  | mk m0 m1 nm kd s0 s1 =>
    have h1 := parts_len nm
    refine ⟨by simp only [nF, mRow, mD]; omega, fun p hp => ?_⟩
    have := parts_mem nm p hp
    simp only [mRow, mD]; omega
theorem nV_ok {x : List D} (hx : ShV x) : (nV x).length ≤ mRow x ∧ ∀ p ∈ nV x, p.size ≤ mRow x := by
  cases hx with
  | mk m0 m1 nm kd sz tn s0 s1 =>
    have h1 := parts_len nm
    have h2 := parts_len tn
    refine ⟨by simp only [nV, mRow, mD, List.length_append]; omega, fun p hp => ?_⟩
    simp only [mRow, mD]
    rcases List.mem_append.1 hp with hp | hp
    · have := parts_mem nm p hp; omega
    · have := parts_mem tn p hp; omega
theorem nP_ok {x : List D} (hx : ShP x) : (nP x).length ≤ mRow x ∧ ∀ p ∈ nP x, p.size ≤ mRow x := by
  cases hx with
  | mk nm kd sz tn md =>
    have h1 := parts_len nm
    have h2 := parts_len tn
    refine ⟨by simp only [nP, mRow, mD, List.length_append]; omega, fun p hp => ?_⟩
    simp only [mRow, mD]
    rcases List.mem_append.1 hp with hp | hp
    · have := parts_mem nm p hp; omega
    · have := parts_mem tn p hp; omega
theorem nC_ok {x : List D} (hx : ShC x) : (nC x).length ≤ mRow x ∧ ∀ p ∈ nC x, p.size ≤ mRow x := by
  cases hx with
  | mk m0 m1 nm fs en s0 s1 sf se =>
    have h1 := parts_len nm
    have h2 := flat_len (h := nF) fs fun y hy => (nF_ok (sf y hy)).1
    refine ⟨by simp only [nC, mRow, mD, List.length_append]; omega, fun p hp => ?_⟩
    simp only [mRow, mD]
    rcases List.mem_append.1 hp with hp | hp
    · have := parts_mem nm p hp; omega
    · have := flat_sz (h := nF) fs (fun y hy => (nF_ok (sf y hy)).2) (Nat.le_refl _) p hp; omega
theorem nE_ok : ∀ (n : Nat) {x : List D} (_ : ShE x), (nE n x).length ≤ mRow x ∧ ∀ p ∈ nE n x, p.size ≤ mRow x
  | 0, _, _ => ⟨Nat.zero_le _, fun p hp => by simp [nE] at hp⟩
  | n + 1, x, hx => by
    cases hx with
    | mk op k nm fd l sl =>
      have h1 := parts_len nm
      have h2 := parts_len fd
      have h3 := flat_len (h := nE n) l fun y hy => (nE_ok n (sl y hy)).1
      refine ⟨by simp only [nE, mRow, mD, List.length_append]; omega, fun p hp => ?_⟩
      simp only [mRow, mD]
      simp only [nE, List.mem_append] at hp
      rcases hp with hp | hp | hp
      · have := parts_mem nm p hp; omega
      · have := parts_mem fd p hp; omega
      · have := flat_sz (h := nE n) l (fun y hy => (nE_ok n (sl y hy)).2) (Nat.le_refl _) p hp; omega
set_option maxHeartbeats 4000000 in
theorem nS_ok : ∀ (n : Nat) {x : List D} (_ : ShS x), (nS n x).length ≤ mRow x ∧ ∀ p ∈ nS n x, p.size ≤ mRow x
  | 0, _, _ => ⟨Nat.zero_le _, fun p hp => by simp [nS] at hp⟩
  | n + 1, x, hx => by
    cases hx with
    | mk m0 m1 op nm pop pn pnm pfd pl ex dn mo bd el en e2 s0 s1 spl sex sbd sel sen se2 =>
      have h1 := parts_len nm
      have h2 := parts_len pnm
      have h3 := parts_len pfd
      have h4 := flat_len (h := nE n) pl fun y hy => (nE_ok n (spl y hy)).1
      have h5 := flat_len (h := nE (n + 1)) ex fun y hy => (nE_ok (n + 1) (sex y hy)).1
      have h6 := flat_len (h := nS n) bd fun y hy => (nS_ok n (sbd y hy)).1
      have h7 := flat_len (h := nS n) el fun y hy => (nS_ok n (sel y hy)).1
      refine ⟨by simp only [nS, mRow, mD, List.length_append]; omega, fun p hp => ?_⟩
      simp only [mRow, mD]
      simp only [nS, List.mem_append] at hp
      rcases hp with hp | hp | hp | hp | hp | hp | hp
      · have := parts_mem nm p hp; omega
      · have := parts_mem pnm p hp; omega
      · have := parts_mem pfd p hp; omega
      · have := flat_sz (h := nE n) pl (fun y hy => (nE_ok n (spl y hy)).2) (Nat.le_refl _) p hp; omega
      · have := flat_sz (h := nE (n + 1)) ex (fun y hy => (nE_ok (n + 1) (sex y hy)).2) (Nat.le_refl _) p hp; omega
      · have := flat_sz (h := nS n) bd (fun y hy => (nS_ok n (sbd y hy)).2) (Nat.le_refl _) p hp; omega
      · have := flat_sz (h := nS n) el (fun y hy => (nS_ok n (sel y hy)).2) (Nat.le_refl _) p hp; omega
theorem nR_ok : ∀ (n : Nat) {x : List D} (_ : ShR x), (nR n x).length ≤ mRow x ∧ ∀ p ∈ nR n x, p.size ≤ mRow x
  | 0, _, _ => ⟨Nat.zero_le _, fun p hp => by simp [nR] at hp⟩
  | n + 1, x, hx => by
    cases hx with
    | mk m0 m1 nm rs ps vr inn bd en s0 s1 sps svr sinn sbd sen =>
      have h1 := parts_len nm
      have h4 := flat_len (h := nP) ps fun y hy => (nP_ok (sps y hy)).1
      have h5 := flat_len (h := nV) vr fun y hy => (nV_ok (svr y hy)).1
      have h6 := flat_len (h := nR n) inn fun y hy => (nR_ok n (sinn y hy)).1
      have h7 := flat_len (h := nS (n + 1)) bd fun y hy => (nS_ok (n + 1) (sbd y hy)).1
      refine ⟨by simp only [nR, mRow, mD, List.length_append]; omega, fun p hp => ?_⟩
      simp only [mRow, mD]
      simp only [nR, List.mem_append] at hp
      rcases hp with hp | hp | hp | hp | hp
      · have := parts_mem nm p hp; omega
      · have := flat_sz (h := nP) ps (fun y hy => (nP_ok (sps y hy)).2) (Nat.le_refl _) p hp; omega
      · have := flat_sz (h := nV) vr (fun y hy => (nV_ok (svr y hy)).2) (Nat.le_refl _) p hp; omega
      · have := flat_sz (h := nR n) inn (fun y hy => (nR_ok n (sinn y hy)).2) (Nat.le_refl _) p hp; omega
      · have := flat_sz (h := nS (n + 1)) bd (fun y hy => (nS_ok (n + 1) (sbd y hy)).2) (Nat.le_refl _) p hp; omega
theorem nG_ok (n : Nat) {x : List D} (hx : ShG x) : (nG n x).length ≤ mRow x ∧ ∀ p ∈ nG n x, p.size ≤ mRow x := by
  cases hx with
  | mk nm be mi af rc vr rt bd en sbe smi saf src svr srt sbd sen =>
    have h1 := parts_len nm
    have h4 := flat_len (h := nC) rc fun y hy => (nC_ok (src y hy)).1
    have h5 := flat_len (h := nV) vr fun y hy => (nV_ok (svr y hy)).1
    have h6 := flat_len (h := nR n) rt fun y hy => (nR_ok n (srt y hy)).1
    have h7 := flat_len (h := nS n) bd fun y hy => (nS_ok n (sbd y hy)).1
    refine ⟨by simp only [nG, mRow, mD, List.length_append]; omega, fun p hp => ?_⟩
    simp only [mRow, mD]
    simp only [nG, List.mem_append] at hp
    rcases hp with hp | hp | hp | hp | hp
    · have := parts_mem nm p hp; omega
    · have := flat_sz (h := nC) rc (fun y hy => (nC_ok (src y hy)).2) (Nat.le_refl _) p hp; omega
    · have := flat_sz (h := nV) vr (fun y hy => (nV_ok (svr y hy)).2) (Nat.le_refl _) p hp; omega
    · have := flat_sz (h := nR n) rt (fun y hy => (nR_ok n (srt y hy)).2) (Nat.le_refl _) p hp; omega
    · have := flat_sz (h := nS n) bd (fun y hy => (nS_ok n (sbd y hy)).2) (Nat.le_refl _) p hp; omega
end Go.Proofs.YtciijpahjjoppaaGreat
end
section
namespace Go.Proofs.YtciijpahjjoppaaGreat
open Go.RowKit Go.Deep Go.Shelf Go.Maps

structure AccJ (w : World) (v : Value) (acc : List ByteArray) (W : World) : Prop where
  own : OwnS w.heap.size W v acc
  bel : Below w.heap.size w W
theorem AccJ.start (w : World) : AccJ w (.slice none 0 0) [] w := ⟨OwnS.nil _ _, Below.refl _ _⟩
theorem AccJ.step {w : World} {v : Value} {acc : List ByteArray} {W W' : World} (h : AccJ w v acc W) (b : Below W.heap.size W W') : AccJ w v acc W' := ⟨h.own.below b, h.bel.trans (b.mono h.bel.size)⟩
theorem AccJ.grown {w : World} {v v' : Value} {acc acc' : List ByteArray} {W W' : World} (h : AccJ w v acc W) (ho : OwnS w.heap.size W' v' acc') (hg : W.grownBy W' v.ownBlock) : AccJ w v' acc' W' :=
  ⟨ho, h.bel.grown hg h.bel.size fun j hj => (h.own.lt j hj).1⟩
theorem AccJ.on {w0 w : World} {v : Value} {acc : List ByteArray} {W : World} (h : AccJ w v acc W) (k : Below w0.heap.size w0 w) : Below w0.heap.size w0 W := k.trans (h.bel.mono k.size)
theorem AccJ.drew {w : World} {v : Value} {acc : List ByteArray} {W : World} (h : AccJ w v acc W) : AccJ w v acc W.drew := h.step (below_drew0 (Below.refl _ _))
theorem take_flat {h : List D → List ByteArray} {l : List (List D)} {k : Nat} {x : List D} (hx : l[k]? = some x) : ((l.take k).flatMap h).length + (h x).length ≤ (l.flatMap h).length := by
  have e : l.flatMap h = (l.take k).flatMap h ++ (h x ++ (l.drop (k + 1)).flatMap h) := by
    rw [← List.flatMap_cons, ← dropC hx, ← List.flatMap_append, List.take_append_drop]
  rw [e, List.length_append, List.length_append]
  omega
theorem take_flat_succ {h : List D → List ByteArray} {l : List (List D)} {k : Nat} {x : List D} (hx : l[k]? = some x) : (l.take (k + 1)).flatMap h = (l.take k).flatMap h ++ h x := by
  rw [List.take_add_one, hx, List.flatMap_append]
  simp
theorem refPartsN (X : ByteArray) (hX : X.size ≤ 2000000) (w : World) : Calls Tryz.prog 52 #[.string X] w fun e w' => ∃ a cap, e = .returned (.slice a (parts X).length cap) ∧ IsStrs w' a (parts X).length cap (parts X) ∧ OwnS w.heap.size w' (.slice a (parts X).length cap) (parts X) ∧ Below w.heap.size w w' :=
  (refParts_any X w hX).mono fun e w' ⟨u, he, hu, hb⟩ => by
    obtain ⟨a, cap, rfl, hs⟩ := hu.strs (fun p hp => by have := parts_mem X p hp; unfold maxLen; omega)
    exact ⟨a, cap, he, hs, hu, hb⟩
/-- What a function of the reference that lists names leaves. -/
def NmsPost (ns : List ByteArray) (w : World) (e : Ending) (w' : World) : Prop := ∃ a cap, e = .returned (.slice a ns.length cap) ∧ IsStrs w' a ns.length cap ns ∧ OwnS w.heap.size w' (.slice a ns.length cap) ns ∧ Below w.heap.size w w'
theorem nms_done {w W : World} {v : Value} {acc : List ByteArray} (h : AccJ w v acc W) (hs : ∀ p ∈ acc, p.size ≤ 2000000) : ∃ a cap, v = .slice a acc.length cap ∧ NmsPost acc w (.returned v) W := by
  obtain ⟨a, cap, rfl, hst⟩ := h.own.strs (fun p hp => by have := hs p hp; unfold maxLen; omega)
  exact ⟨a, cap, rfl, a, cap, rfl, hst, h.own, h.bel⟩
end Go.Proofs.YtciijpahjjoppaaGreat
end
section
namespace Go.Proofs.YtciijpahjjoppaaGreat
open Go.RowKit Go.Deep Go.Shelf Go.Maps

theorem owp_appS {o : Oper} {a : Act} {Q : Exit → Act → World → Prop} {K : Act → World → Prop} (sl x : Operand)
    (ho : o.op = .call { callee := .builtin .append, args := #[sl, x], argTypes := #[29, 29] })
    {base : Nat} {w : World} {v : Value} {ss : List ByteArray} (h : OwnS base w v ss) (hbase : base ≤ w.heap.size) {ad : Option Addr} {len cap : Nat} {ls : List ByteArray} (hl : IsStrs w ad len cap ls) (hs : a.eval sl = v) (hx : a.eval x = .slice ad len cap) (hb : ss.length + len ≤ 4000000)
    (hk : ∀ v' w', OwnS base w' v' (ss ++ ls) → w.grownBy w' v.ownBlock → K (a.put o.dst v') w') : Oper.wp Tryz.prog o a w K Q := by
  obtain ⟨v', w', hr, h2, h3⟩ := run_appS o.type h hbase hl hb
  unfold Oper.wp execOp
  simp only [ho, resolve, invoke, builtin, Sem.run_bind, Sem.run_pure, Result.andThen_ok, List.map_toArray, List.map_cons, List.map_nil, hs, hx, hr]
  exact hk v' w' h2 h3
set_option maxRecDepth 100000 in
set_option maxHeartbeats 4000000 in
theorem refExprNames_step (w0 : World) (N : Nat) (op kk : Int) (nm fd : ByteArray) (kl : List (List D)) (kla : Option Addr) (klc : Nat) (hz1 : nm.size ≤ 2000000) (hz2 : fd.size ≤ 2000000) (hA : At w0 (.slice kla kl.length klc) (.row kl)) (hs : ∀ x ∈ kl, ShE x) (hbk : (parts nm).length + ((parts fd).length + (kl.flatMap (nE N)).length) ≤ 2000000) (hzs : ∀ p ∈ parts nm ++ parts fd ++ kl.flatMap (nE N), p.size ≤ 2000000)
    (hrec : ∀ y ∈ kl, ∀ us, AllAt w0 us y → ∀ W, Below w0.heap.size w0 W → Calls Tryz.prog 96 #[.agg ⟨us⟩] W (NmsPost (nE N y) W)) (W : World) (hW : Below w0.heap.size w0 W) :
    Calls Tryz.prog 96 #[.agg ⟨[.int .i64 op, .int .i64 kk, .string nm, .string fd, .slice kla kl.length klc]⟩] W (NmsPost (parts nm ++ parts fd ++ kl.flatMap (nE N)) W) := by
  have HA := Lib.hid hA
  have HS := Lib.hid hs
  have HR := Lib.hid hrec
  have HZ := Lib.hid hzs
  have hle := hA.len_le
  have HW := Lib.hid (hW.alloc hW.size (.cells #[.int .i64 op, .int .i64 kk, .string nm, .string fd, .slice kla kl.length klc] 24))
  have BK := Lib.hid hbk
  have BXC := Lib.hid (fun (V : World) (hb : Below (W.heap.size + 1) (W.alloc (.cells #[.int .i64 op, .int .i64 kk, .string nm, .string fd, .slice kla kl.length klc] 24)) V) => box_cells ((hb.block W.heap.size (by omega)).trans (heap_new W (.cells #[.int .i64 op, .int .i64 kk, .string nm, .string fd, .slice kla kl.length klc] 24))))
  clear hA hs hrec hW hbk hzs
  go_enter Tryz.func96, Tryz.ntmps96
  go_wp2_with fail
  refine wp_region_held (S := fun w' => Below (W.heap.size + 1) (W.alloc (.cells #[.int .i64 op, .int .i64 kk, .string nm, .string fd, .slice kla kl.length klc] 24)) w') (by kernel_rfl) ?_
  have hHeld := below_drew0 (Below.refl (W.heap.size + 1) (W.alloc (.cells #[.int .i64 op, .int .i64 kk, .string nm, .string fd, .slice kla kl.length klc] 24)))
  change (fun w' => Below (W.heap.size + 1) (W.alloc (.cells #[.int .i64 op, .int .i64 kk, .string nm, .string fd, .slice kla kl.length klc] 24)) w') _ at hHeld
  refine wpAnyH_take (i := 0) (oi := ⟨some 5, .fieldAddr 24 (.tmp 1) 2, 0, "ref.go:357", #[], none⟩) (v := ?v0) rfl (by kernel_rfl) (by kernel_rfl) (by kernel_rfl) (fun _ _ _ h => h) (Or.inl ⟨by rfl, ?hy0⟩) hHeld ?rest0
  case hy0 => (intro V hSW; have cA := BXC.out V hSW; go_simp; try with_reducible rfl)
  try simp only [Act.put, List.setIfInBounds_toArray, List.set_cons_zero, List.set_cons_succ]
  refine wpAnyH_take (i := 1) (oi := ⟨some 6, .load 9 (.tmp 5), 9, "ref.go:357", #[⟨0, .data⟩], none⟩) (v := ?v1) rfl (by kernel_rfl) (by kernel_rfl) (by kernel_rfl) (fun _ _ _ h => h) (Or.inl ⟨by rfl, ?hy1⟩) hHeld ?rest1
  case hy1 => (intro V hSW; have cA := BXC.out V hSW; go_simp; try with_reducible rfl)
  try simp only [Act.put, List.setIfInBounds_toArray, List.set_cons_zero, List.set_cons_succ]
  refine wpAnyH_take (i := 3) (oi := ⟨some 8, .fieldAddr 24 (.tmp 1) 3, 0, "ref.go:357", #[], none⟩) (v := ?v3) rfl (by kernel_rfl) (by kernel_rfl) (by kernel_rfl) (fun _ _ _ h => h) (Or.inl ⟨by rfl, ?hy3⟩) hHeld ?rest3
  case hy3 => (intro V hSW; have cA := BXC.out V hSW; go_simp; try with_reducible rfl)
  try simp only [Act.put, List.setIfInBounds_toArray, List.set_cons_zero, List.set_cons_succ]
  refine wpAnyH_take (i := 4) (oi := ⟨some 9, .load 9 (.tmp 8), 9, "ref.go:357", #[⟨3, .data⟩], none⟩) (v := ?v4) rfl (by kernel_rfl) (by kernel_rfl) (by kernel_rfl) (fun _ _ _ h => h) (Or.inl ⟨by rfl, ?hy4⟩) hHeld ?rest4
  case hy4 => (intro V hSW; have cA := BXC.out V hSW; go_simp; try with_reducible rfl)
  try simp only [Act.put, List.setIfInBounds_toArray, List.set_cons_zero, List.set_cons_succ]
  refine wpAnyH_ready (rs := [2]) (by kernel_rfl) (by simp) ?_
  refine AllReadyH.cons (o := ⟨some 7, .call { callee := .value (.func 52), args := #[.tmp 6], argTypes := #[9] }, 29, "ref.go:357", #[⟨1, .data⟩], none⟩) rfl (fun K hK => ?_) AllReadyH.nil
  go_simp
  go_at_call 52
  refine (refPartsN nm hz1 _).mono ?_
  rintro e w2 ⟨a2, p2, rfl, s2, o2, b2⟩
  have hB2 : Below (W.heap.size + 1) (W.alloc (.cells #[.int .i64 op, .int .i64 kk, .string nm, .string fd, .slice kla kl.length klc] 24)) w2 := hHeld.trans (b2.mono (by simp))
  have J2 := Lib.hid (show AccJ (W.alloc (.cells #[.int .i64 op, .int .i64 kk, .string nm, .string fd, .slice kla kl.length klc] 24)) (.slice a2 (parts nm).length p2) (parts nm) w2 from ⟨o2.mono hHeld.size, by simpa using hB2⟩)
  clear hHeld s2 o2 b2
  have hHeld := hB2
  clear hB2
  refine hK.out _ _ hHeld (fun _ => ?_)
  clear hK K
  try simp only [Act.put, List.setIfInBounds_toArray, List.set_cons_zero, List.set_cons_succ]
  refine wpAnyH_ready (rs := [5]) (by kernel_rfl) (by simp) ?_
  refine AllReadyH.cons (o := ⟨some 10, .call { callee := .value (.func 52), args := #[.tmp 9], argTypes := #[9] }, 29, "ref.go:357", #[⟨4, .data⟩, ⟨2, .chain⟩], none⟩) rfl (fun K hK => ?_) AllReadyH.nil
  go_simp
  go_at_call 52
  refine (refPartsN fd hz2 _).mono ?_
  rintro e w3 ⟨a3, p3, rfl, s3, o3, b3⟩
  have hB3 : Below (W.heap.size + 1) (W.alloc (.cells #[.int .i64 op, .int .i64 kk, .string nm, .string fd, .slice kla kl.length klc] 24)) w3 := hHeld.trans (b3.mono (by have := hHeld.size; simpa using this))
  have J3 := Lib.hid (J2.out.step b3)
  have U3 := Lib.hid s3
  clear hHeld s3 o3 b3
  have hHeld := hB3
  clear hB3
  refine hK.out _ _ hHeld (fun _ => ?_)
  clear hK K
  try simp only [Act.put, List.setIfInBounds_toArray, List.set_cons_zero, List.set_cons_succ]
  refine wpAnyH_ready (rs := [6]) (by kernel_rfl) (by simp) ?_
  refine AllReadyH.cons (o := ⟨some 11, .call { callee := .builtin .append, args := #[.tmp 7, .tmp 10], argTypes := #[29, 29] }, 29, "ref.go:357", #[⟨2, .data⟩, ⟨5, .data⟩, ⟨5, .chain⟩], none⟩) rfl (fun K hK => ?_) AllReadyH.nil
  rw [if_pos (by rfl)]
  refine owp_appS (.tmp 7) (.tmp 10) rfl J3.out.own J3.out.bel.size U3.out rfl rfl (by have := BK.out; omega) ?_
  intro v4 w4 ho4 hg4
  have J4 := Lib.hid (J3.out.grown ho4 hg4)
  clear ho4 hg4 hHeld
  have hHeld : Below (W.heap.size + 1) (W.alloc (.cells #[.int .i64 op, .int .i64 kk, .string nm, .string fd, .slice kla kl.length klc] 24)) w4 := by simpa using J4.out.bel
  refine hK.out _ _ hHeld (fun _ => ?_)
  clear hK K
  try simp only [Act.put, List.setIfInBounds_toArray, List.set_cons_zero, List.set_cons_succ]
  refine wpAnyH_take (i := 7) (oi := ⟨some 3, .assign (.tmp 11), 29, "ref.go:357", #[⟨6, .data⟩, ⟨6, .chain⟩, ⟨0, .phase⟩, ⟨1, .phase⟩, ⟨2, .phase⟩, ⟨3, .phase⟩, ⟨4, .phase⟩, ⟨5, .phase⟩, ⟨6, .phase⟩], none⟩) (v := ?v7) rfl (by kernel_rfl) (by kernel_rfl) (by kernel_rfl) (fun _ _ _ h => h) (Or.inl ⟨by rfl, ?hy7⟩) hHeld ?rest7
  case hy7 => (intro V hSW; have cA := BXC.out V hSW; go_simp; try with_reducible rfl)
  try simp only [Act.put, List.setIfInBounds_toArray, List.set_cons_zero, List.set_cons_succ]
  refine wpAnyH_done (by kernel_rfl) ?_ _
  clear hHeld
  have cA := BXC.out w4 (by simpa using J4.out.bel)
  go_wp2_with fail
  go_loopw [3, 4] (fun u i wr => ∃ (k : Nat) (v : Value), k ≤ kl.length ∧ v = u ∧ i = .int .i64 k ∧ Hid (AccJ (W.alloc (.cells #[.int .i64 op, .int .i64 kk, .string nm, .string fd, .slice kla kl.length klc] 24)) v (parts nm ++ parts fd ++ (kl.take k).flatMap (nE N)) wr)) (fun _ i _ => kl.length - (intOf i).toNat)
  case atStart => exact ⟨0, _, Nat.zero_le _, rfl, rfl, by simpa using J4⟩
  case round =>
    obtain ⟨k, v, hk, rfl, rfl, HJ⟩ := hrel
    clear cA
    have cA := BXC.out wr (by simpa using HJ.out.bel)
    by_cases hlt : k < kl.length
    · obtain ⟨b, o, vs, ds, rfl, hbl, hx, hv, hc⟩ := HA.out.elem hlt
      have hdl : ds.length = 5 := (HS.out _ (List.mem_of_getElem? hx)).ln
      rw [hdl] at hc
      have hvl := Lib.hid (hv.len.trans hdl)
      have FN := Lib.hid (HR.out ds (List.mem_of_getElem? hx) vs hv)
      have BT := Lib.hid (take_flat (h := nE N) hx)
      have TK := Lib.hid (take_flat_succ (h := nE N) hx)
      have B0 := Lib.hid (HJ.out.on HW.out)
      have hbw : b < wr.heap.size := Nat.lt_of_lt_of_le hbl B0.out.size
      have C0 := Lib.hid (show ∀ j v, vs[j]? = some v → wr.cell? ⟨b, o + k * 5 + j, none⟩ = some v from fun j v hv => (B0.out.cell (p := ⟨b, o + k * 5 + j, none⟩) hbl).trans (hc j v hv))
      clear hx hdl hc hv
      go_wp2_with (first
        | ((with_reducible refine wp_loadAgg (o := ⟨some 24, _, _, _, _, _⟩) rfl (.tmp 23) 24 rfl 5 Tryz.isAgg24 Tryz.sizeOf24 b (o + k * 5) ?_ vs hvl.out C0.out ?_); rfl))
      refine (FN.out _ B0.out).mono ?_
      rintro e w5 ⟨a5, p5, rfl, s5, _, b5⟩
      have J5 := Lib.hid (HJ.out.step b5)
      have U5 := Lib.hid s5
      clear b5 s5 cA
      go_wp2_with (first
        | (refine wp_appS rfl (.tmp 19) (.tmp 25) rfl J5.out.own J5.out.bel.size U5.out rfl rfl (by have := BK.out; have := BT.out; simp only [List.length_append]; omega) ?_; intro v6 w6 ho hg; have w6A := Lib.hid (J5.out.grown ho hg); clear ho hg))
      go_roundw
      case rel => exact ⟨k + 1, v6, by omega, rfl, by go_num, by rw [TK.out, ← List.append_assoc]; exact w6A⟩
      case measure => simp [intOf]; omega
    · obtain rfl : k = kl.length := by omega
      have HE := HJ.out
      rw [List.take_length] at HE
      obtain ⟨a', cap', rfl, HP⟩ := nms_done HE HZ.out
      have HP := Lib.hid HP
      clear HE HJ
      go_wp2_with fail
      go_ret
      obtain ⟨a7, p7, he, h1, h2, h3⟩ := HP.out
      exact ⟨a7, p7, he, h1, h2.mono (by simp), ((Below.refl W.heap.size W).alloc (Nat.le_refl _) _).trans (h3.mono (by simp))⟩
theorem refExprNames_any (w0 : World) : ∀ (N : Nat) (x : List D) (vs : List Value), ShE x → mRow x < N → mRow x ≤ 2000000 → AllAt w0 vs x → ∀ W, Below w0.heap.size w0 W → Calls Tryz.prog 96 #[.agg ⟨vs⟩] W (NmsPost (nE N x) W)
  | 0, _, _, _, h, _, _, _, _ => absurd h (Nat.not_lt_zero _)
  | N + 1, x, vs, hx, hn, hb, hv, W, hW => by
    have ok := nE_ok (N + 1) hx
    obtain ⟨op, kk, nm, fd, kl, kla, klc, rfl, rfl, _, _, _, _, akl, skl⟩ := hv.openE hx
    have e : nE (N + 1) [.int op, .int kk, .str nm, .str fd, .row kl] = parts nm ++ parts fd ++ kl.flatMap (nE N) := by rw [List.append_assoc]; rfl
    have hl := ok.1
    rw [e] at ok hl ⊢
    simp only [mRow, mD] at hb hn
    have hmx : mRow [.int op, .int kk, .str nm, .str fd, .row kl] ≤ 2000000 := by simp only [mRow, mD]; omega
    exact refExprNames_step w0 N op kk nm fd kl kla klc (by omega) (by omega) akl skl (by simp only [List.length_append] at hl; omega) (fun p hp => by have := ok.2 p hp; omega) (fun y hy us hu U hU => refExprNames_any w0 N y us (skl y hy) (by have := mRows_mem hy; omega) (by have := mRows_mem hy; omega) hu U hU) W hW
end Go.Proofs.YtciijpahjjoppaaGreat
end
section
namespace Go.Proofs.YtciijpahjjoppaaGreat
open Go.RowKit Go.Deep Go.Shelf Go.Maps

set_option maxRecDepth 100000 in
set_option maxHeartbeats 4000000 in
theorem refVarNames_any (w0 : World) (a : Option Addr) (len cap : Nat) (l : List (List D)) (hA : At w0 (.slice a len cap) (.row l)) (hs : ∀ x ∈ l, ShV x) (hb : mRows l ≤ 2000000) (W : World) (hW : Below w0.heap.size w0 W) :
    Calls Tryz.prog 53 #[.slice a len cap] W (NmsPost (l.flatMap nV) W) := by
  have HA := Lib.hid hA
  have HS := Lib.hid hs
  have HW := Lib.hid hW
  have hle := hA.len_le
  have HL := Lib.hid hA.len_eq.1
  have HT := Lib.hid (flat_len (h := nV) l fun y hy => (nV_ok (hs y hy)).1)
  have HZ := Lib.hid (flat_sz (h := nV) l (fun y hy => (nV_ok (hs y hy)).2) hb)
  have HBM := Lib.hid hb
  clear hA hs hW hb
  go_enter Tryz.func53, Tryz.ntmps53
  go_wp2_with fail
  go_loopw [3, 4] (fun u i wr => ∃ (k : Nat) (v : Value), k ≤ len ∧ v = u ∧ i = .int .i64 k ∧ Hid (AccJ W v ((l.take k).flatMap nV) wr)) (fun _ i _ => len - (intOf i).toNat)
  case atStart => exact ⟨0, _, Nat.zero_le _, rfl, rfl, Lib.hid (AccJ.start W)⟩
  case round =>
    obtain ⟨k, v, hk, rfl, rfl, HJ⟩ := hrel
    by_cases hlt : k < len
    · obtain ⟨b, o, vs, ds, rfl, hbl, hx, hv, hc⟩ := HA.out.elem hlt
      obtain ⟨m0, m1, nm, kd, sz, tn, m0a, m0c, m1a, m1c, hds, hvs, _⟩ := hv.openV (HS.out _ (List.mem_of_getElem? hx))
      subst hvs
      have hdl : ds.length = 6 := by rw [hds]; rfl
      rw [hdl] at hc
      have hbm := mRows_mem (List.mem_of_getElem? hx)
      rw [hds] at hbm
      simp only [mRow, mD] at hbm
      have hz1 : nm.size ≤ 2000000 := by have := HBM.out; omega
      have hz2 : tn.size ≤ 2000000 := by have := HBM.out; omega
      have BK := Lib.hid (show ((l.take k).flatMap nV).length + ((parts nm).length + (parts tn).length) ≤ 2000000 by have := take_flat (h := nV) hx; rw [hds] at this; simp only [nV, List.length_append] at this; have := HT.out; have := HBM.out; omega)
      have TK := Lib.hid (show (l.take (k + 1)).flatMap nV = ((l.take k).flatMap nV ++ parts nm) ++ parts tn by rw [take_flat_succ hx, hds, List.append_assoc]; rfl)
      have HC2 := Lib.hid (hc 2 _ rfl)
      have HC5 := Lib.hid (hc 5 _ rfl)
      have hbw : b < wr.heap.size := Nat.lt_of_lt_of_le hbl (HJ.out.on HW.out).size
      have c2 := ((HJ.out.on HW.out).cell (p := ⟨b, o + k * 6 + 2, none⟩) hbl).trans HC2.out
      clear hx hds hdl hc hv hbm
      go_wp2_with fail
      refine (refPartsN nm hz1 _).mono ?_
      rintro e w1 ⟨a1, p1, rfl, s1, _, b1⟩
      have J1 := Lib.hid (HJ.out.step b1)
      have U1 := Lib.hid s1
      clear b1 s1 c2
      go_wp2_with (first
        | (refine wp_appS rfl (.tmp 11) (.tmp 17) rfl J1.out.own J1.out.bel.size U1.out rfl rfl (by have := BK.out; omega) ?_; intro v2 w2 ho hg; have w2A := Lib.hid (J1.out.grown ho hg); clear ho hg; have hbw2 : b < w2.heap.size := Nat.lt_of_lt_of_le hbl (w2A.out.on HW.out).size; have c5 := ((w2A.out.on HW.out).cell (p := ⟨b, o + k * 6 + 5, none⟩) hbl).trans HC5.out))
      refine (refPartsN tn hz2 _).mono ?_
      rintro e w3 ⟨a3, p3, rfl, s3, _, b3⟩
      have J3 := Lib.hid (w2A.out.step b3)
      have U3 := Lib.hid s3
      clear b3 s3 c5
      go_wp2_with (first
        | (refine wp_appS rfl (.tmp 19) (.tmp 26) rfl J3.out.own J3.out.bel.size U3.out rfl rfl (by have := BK.out; simp only [List.length_append]; omega) ?_; intro v4 w4 ho hg; have w4A := Lib.hid (J3.out.grown ho hg); clear ho hg))
      go_roundw
      case rel => exact ⟨k + 1, v4, by omega, rfl, by go_num, by rw [TK.out]; exact w4A⟩
      case measure => simp [intOf]; omega
    · obtain rfl : k = len := by omega
      have HE := HJ.out
      rw [show l.take k = l by rw [← HL.out, List.take_length]] at HE
      obtain ⟨a', cap', rfl, HP⟩ := nms_done HE (HZ.out)
      have HP := Lib.hid HP
      clear HE HJ
      go_wp2_with fail
      go_ret
      exact HP.out
end Go.Proofs.YtciijpahjjoppaaGreat
end
section
namespace Go.Proofs.YtciijpahjjoppaaGreat
open Go.RowKit Go.Deep Go.Shelf Go.Maps

set_option maxRecDepth 100000 in
set_option maxHeartbeats 16000000 in
theorem refStmtNames_step (w0 : World) (N : Nat) (a : Option Addr) (len cap : Nat) (l : List (List D)) (hA : At w0 (.slice a len cap) (.row l)) (hs : ∀ x ∈ l, ShS x) (hb : mRows l ≤ 2000000) (hlt : ∀ x ∈ l, mRow x < N + 1)
    (hrec : ∀ x ∈ l, ∀ l2, D.row l2 ∈ x → (∀ y ∈ l2, ShS y) → ∀ a2 cap2, At w0 (.slice a2 l2.length cap2) (.row l2) → ∀ W, Below w0.heap.size w0 W → Calls Tryz.prog 55 #[.slice a2 l2.length cap2] W (NmsPost (l2.flatMap (nS N)) W)) (W : World) (hW : Below w0.heap.size w0 W) :
    Calls Tryz.prog 55 #[.slice a len cap] W (NmsPost (l.flatMap (nS (N + 1))) W) := by
  have HA := Lib.hid hA
  have HS := Lib.hid hs
  have HW := Lib.hid hW
  have HR := Lib.hid hrec
  have HLT := Lib.hid hlt
  have hle := hA.len_le
  have HL := Lib.hid hA.len_eq.1
  have HT := Lib.hid (flat_len (h := nS (N + 1)) l fun y hy => (nS_ok (N + 1) (hs y hy)).1)
  have HZ := Lib.hid (flat_sz (h := nS (N + 1)) l (fun y hy => (nS_ok (N + 1) (hs y hy)).2) hb)
  have HBM := Lib.hid hb
  clear hA hs hW hb hrec hlt
  go_enter Tryz.func55, Tryz.ntmps55
  go_wp2_with fail
  go_loopw [3, 4] (fun u i wr => ∃ (k : Nat) (v : Value), k ≤ len ∧ v = u ∧ i = .int .i64 k ∧ Hid (AccJ W v ((l.take k).flatMap (nS (N + 1))) wr)) (fun _ i _ => len - (intOf i).toNat)
  case atStart => exact ⟨0, _, Nat.zero_le _, rfl, rfl, Lib.hid (AccJ.start W)⟩
  case round =>
    obtain ⟨k, v, hk, rfl, rfl, HJ⟩ := hrel
    by_cases hlt : k < len
    · obtain ⟨b, o, vs, ds, rfl, hbl, hx, hv, hc⟩ := HA.out.elem hlt
      have hmem := List.mem_of_getElem? hx
      have hrl := HR.out ds hmem
      have hltd := HLT.out ds hmem
      obtain ⟨m0, m1, op, nm, pop, pn, pnm, pfd, pl, ex, dn, mo, bd, el, en, e2, m0a, m0c, m1a, m1c, pla, plc, exa, exc, bda, bdc, ela, elc, ena, enc, e2a, e2c, hds, hvs, _, _, _, _, ⟨p1, p2⟩, ⟨p3, p4⟩, p5, p6, a_pl, a_ex, a_bd, a_el, _, _, _, _, t_pl, t_ex, t_bd, t_el, _⟩ := hv.openS (HS.out _ hmem)
      subst hvs
      have hdl : ds.length = 16 := by rw [hds]; rfl
      rw [hdl] at hc
      have HCJ := Lib.hid (fun (j : Nat) (u : Value) (h : ([.slice m0a m0.length m0c, .slice m1a m1.length m1c, .int .i64 op, .string nm, .int .i64 pop, .int .i64 pn, .string pnm, .string pfd, .slice pla pl.length plc, .slice exa ex.length exc, .bool dn, .bool mo, .slice bda bd.length bdc, .slice ela el.length elc, .slice ena en.length enc, .slice e2a e2.length e2c] : List Value)[j]? = some u) (V : World) (hb : Below w0.heap.size w0 V) => ((hb.cell (p := ⟨b, o + k * 16 + j, none⟩) hbl).trans (hc j u h)))
      have hbm := mRows_mem hmem
      rw [hds] at hbm hltd
      simp only [mRow, mD] at hbm hltd
      have hz1 : nm.size ≤ 2000000 := by have := HBM.out; omega
      have KP := Lib.hid (fun (V : World) (hV : Below w0.heap.size w0 V) => refExprNames_any w0 (N + 1) [.int pop, .int pn, .str pnm, .str pfd, .row pl] [.int .i64 pop, .int .i64 pn, .string pnm, .string pfd, .slice pla pl.length plc] (.mk pop pn pnm pfd pl t_pl) (by simp only [mRow, mD]; omega) (by have := HBM.out; simp only [mRow, mD]; omega) ⟨.int pop p1 p2, .int pn p3 p4, .str pnm p5, .str pfd p6, a_pl, trivial⟩ V hV)
      have KE := Lib.hid (fun y (hy : y ∈ ex) us hu V hV => refExprNames_any w0 (N + 1) y us (t_ex y hy) (by have := mRows_mem hy; omega) (by have := mRows_mem hy; have := HBM.out; omega) hu V hV)
      have KB := Lib.hid (hrl bd (by rw [hds]; simp) t_bd bda bdc a_bd)
      have KL := Lib.hid (hrl el (by rw [hds]; simp) t_el ela elc a_el)
      have AE := Lib.hid a_ex
      have TE := Lib.hid t_ex
      have hlex := a_ex.len_le
      have ET := Lib.hid (show nS (N + 1) ds = parts nm ++ (nE (N + 1) [.int pop, .int pn, .str pnm, .str pfd, .row pl] ++ (ex.flatMap (nE (N + 1)) ++ (bd.flatMap (nS N) ++ el.flatMap (nS N)))) by rw [hds]; simp only [nS, nE, List.append_assoc])
      have BK := Lib.hid (show ((l.take k).flatMap (nS (N + 1))).length + ((parts nm).length + ((nE (N + 1) [.int pop, .int pn, .str pnm, .str pfd, .row pl]).length + ((ex.flatMap (nE (N + 1))).length + ((bd.flatMap (nS N)).length + (el.flatMap (nS N)).length)))) ≤ 2000000 by have := take_flat (h := nS (N + 1)) hx; rw [ET.out] at this; simp only [List.length_append] at this; have := HT.out; have := HBM.out; omega)
      have TK := Lib.hid (show (l.take (k + 1)).flatMap (nS (N + 1)) = (((((l.take k).flatMap (nS (N + 1)) ++ parts nm) ++ nE (N + 1) [.int pop, .int pn, .str pnm, .str pfd, .row pl]) ++ ex.flatMap (nE (N + 1))) ++ bd.flatMap (nS N)) ++ el.flatMap (nS N) by rw [take_flat_succ hx, ET.out]; simp only [List.append_assoc])
      have BTE := Lib.hid (fun (j : Nat) (y : List D) (hy : ex[j]? = some y) => take_flat (h := nE (N + 1)) hy)
      have TKE := Lib.hid (fun (j : Nat) (y : List D) (hy : ex[j]? = some y) => take_flat_succ (h := nE (N + 1)) hy)
      clear hx hds hdl hc hv hbm hmem hrl hltd p1 p2 p3 p4 p5 p6 a_pl a_ex a_bd a_el t_pl t_ex t_bd t_el
      generalize hnP : nE (N + 1) [.int pop, .int pn, .str pnm, .str pfd, .row pl] = nP' at *
      generalize hnB : bd.flatMap (nS N) = nB at *
      generalize hnL : el.flatMap (nS N) = nL at *
      clear hnP hnB hnL
      have bw := Nat.lt_of_lt_of_le hbl (HJ.out.on HW.out).size
      have c3 := HCJ.out 3 _ rfl _ (HJ.out.on HW.out)
      go_wp2_with fail
      refine (refPartsN nm hz1 _).mono ?_
      rintro e w1 ⟨a1, p1, rfl, s1, _, b1⟩
      have J1 := Lib.hid (HJ.out.step b1)
      have U1 := Lib.hid s1
      clear b1 s1 c3 bw
      go_wp2_with (first
        | (refine wp_appS rfl (.tmp 12) (.tmp 18) rfl J1.out.own J1.out.bel.size U1.out rfl rfl (by have := BK.out; omega) ?_; intro v2 w2 ho hg; have w2A := Lib.hid (J1.out.grown ho hg); clear ho hg; have bw := Nat.lt_of_lt_of_le hbl (w2A.out.on HW.out).size; have CP := Lib.hid (show ∀ j u, ([.int .i64 pop, .int .i64 pn, .string pnm, .string pfd, .slice pla pl.length plc] : List Value)[j]? = some u → w2.cell? ⟨b, o + k * 16 + 4 + j, none⟩ = some u from fun j u h => by rw [Nat.add_assoc]; exact HCJ.out (4 + j) u (by have hj : j < 5 := (List.getElem?_eq_some_iff.1 h).1; match j, hj with | 0, _ => exact h | 1, _ => exact h | 2, _ => exact h | 3, _ => exact h | 4, _ => exact h) _ (w2A.out.on HW.out)))
        | ((with_reducible refine wp_loadAgg (o := ⟨some 25, _, _, _, _, _⟩) rfl (.tmp 24) 24 rfl 5 Tryz.isAgg24 Tryz.sizeOf24 b (o + k * 16 + 4) ?_ [.int .i64 pop, .int .i64 pn, .string pnm, .string pfd, .slice pla pl.length plc] rfl CP.out ?_); rfl))
      refine (KP.out _ (w2A.out.on HW.out)).mono ?_
      rintro e w3 ⟨a3, p3, rfl, s3, _, b3⟩
      have J3 := Lib.hid (w2A.out.step b3)
      have U3 := Lib.hid s3
      clear b3 s3 bw CP
      go_wp2_with (first
        | (refine wp_appS rfl (.tmp 20) (.tmp 26) rfl J3.out.own J3.out.bel.size U3.out rfl rfl (by have := BK.out; simp only [List.length_append]; omega) ?_; intro v4 w4 ho hg; have w4A := Lib.hid (J3.out.grown ho hg); clear ho hg))
      obtain ⟨wo, hwo⟩ : ∃ wo, wo = wr := ⟨_, rfl⟩
      clear hwo
      go_loopw [3, 5] (fun u i wr => ∃ (j : Nat) (v : Value), j ≤ ex.length ∧ v = u ∧ i = .int .i64 j ∧ Hid (AccJ W v (((l.take k).flatMap (nS (N + 1)) ++ parts nm ++ nP') ++ (ex.take j).flatMap (nE (N + 1))) wr)) (fun _ i _ => ex.length - (intOf i).toNat)
      case atStart => exact ⟨0, _, Nat.zero_le _, rfl, rfl, by simpa using w4A⟩
      case round =>
        obtain ⟨j, v5, hj, rfl, rfl, HJE⟩ := hrel
        have bw := Nat.lt_of_lt_of_le hbl (HJE.out.on HW.out).size; have c9 := HCJ.out 9 _ rfl _ (HJE.out.on HW.out); have c12 := HCJ.out 12 _ rfl _ (HJE.out.on HW.out); have c13 := HCJ.out 13 _ rfl _ (HJE.out.on HW.out)
        by_cases hjt : j < ex.length
        · obtain ⟨b2, o2, us, es, rfl, hbl2, hy, hu, hc2⟩ := AE.out.elem hjt
          have hel : es.length = 5 := (TE.out _ (List.mem_of_getElem? hy)).ln
          rw [hel] at hc2
          have hul := Lib.hid (hu.len.trans hel)
          have FN := Lib.hid (KE.out es (List.mem_of_getElem? hy) us hu)
          have BT := Lib.hid (BTE.out j es hy)
          have TE2 := Lib.hid (TKE.out j es hy)
          have bw2 := Nat.lt_of_lt_of_le hbl2 (HJE.out.on HW.out).size
          have C2 := Lib.hid (show ∀ i u, us[i]? = some u → wr.cell? ⟨b2, o2 + j * 5 + i, none⟩ = some u from fun i u h => ((HJE.out.on HW.out).cell (p := ⟨b2, o2 + j * 5 + i, none⟩) hbl2).trans (hc2 i u h))
          clear hy hu hc2 hel
          go_wp2_with (first
            | ((with_reducible refine wp_loadAgg (o := ⟨some 46, _, _, _, _, _⟩) rfl (.tmp 45) 24 rfl 5 Tryz.isAgg24 Tryz.sizeOf24 b2 (o2 + j * 5) ?_ us hul.out C2.out ?_); rfl))
          refine (FN.out _ (HJE.out.on HW.out)).mono ?_
          rintro e w5 ⟨a5, p5, rfl, s5, _, b5⟩
          have J5 := Lib.hid (HJE.out.step b5)
          have U5 := Lib.hid s5
          clear b5 s5 c9 c12 c13 bw bw2
          go_wp2_with (first
            | (refine wp_appS rfl (.tmp 38) (.tmp 47) rfl J5.out.own J5.out.bel.size U5.out rfl rfl (by have := BK.out; have := BT.out; simp only [List.length_append]; omega) ?_; intro v6 w6 ho hg; have w6A := Lib.hid (J5.out.grown ho hg); clear ho hg))
          go_roundw
          case rel => exact ⟨j + 1, v6, by omega, rfl, by go_num, by rw [TE2.out, ← List.append_assoc]; exact w6A⟩
          case measure => simp [intOf]; omega
        · obtain rfl : j = ex.length := by omega
          have JX := Lib.hid (by have h := HJE.out; rw [List.take_length] at h; exact h : AccJ W v5 (((l.take k).flatMap (nS (N + 1)) ++ parts nm ++ nP') ++ ex.flatMap (nE (N + 1))) wr)
          clear HJE
          go_wp2_with fail
          refine (KB.out _ (JX.out.on HW.out)).mono ?_
          rintro e w7 ⟨a7, p7, rfl, s7, _, b7⟩
          have J7 := Lib.hid (JX.out.step b7)
          have U7 := Lib.hid s7
          clear b7 s7 c9 c12 c13 bw
          go_wp2_with (first
            | (refine wp_appS rfl (.tmp 49) (.tmp 55) rfl J7.out.own J7.out.bel.size U7.out rfl rfl (by have := BK.out; simp only [List.length_append]; omega) ?_; intro v8 w8 ho hg; have w8A := Lib.hid (J7.out.grown ho hg); clear ho hg; have bw := Nat.lt_of_lt_of_le hbl (w8A.out.on HW.out).size; have c13 := HCJ.out 13 _ rfl _ (w8A.out.on HW.out)))
          refine (KL.out _ (w8A.out.on HW.out)).mono ?_
          rintro e w9 ⟨a9, p9, rfl, s9, _, b9⟩
          have J9 := Lib.hid (w8A.out.step b9)
          have U9 := Lib.hid s9
          clear b9 s9 c13 bw
          go_wp2_with (first
            | (refine wp_appS rfl (.tmp 57) (.tmp 63) rfl J9.out.own J9.out.bel.size U9.out rfl rfl (by have := BK.out; simp only [List.length_append]; omega) ?_; intro v10 w10 ho hg; have w10A := Lib.hid (J9.out.grown ho hg); clear ho hg))
          go_roundw
          case rel => exact ⟨k + 1, v10, by omega, rfl, by go_num, by rw [TK.out]; exact w10A⟩
          case measure => simp [intOf]; omega
    · obtain rfl : k = len := by omega
      have HE := HJ.out
      rw [show l.take k = l by rw [← HL.out, List.take_length]] at HE
      obtain ⟨a', cap', rfl, HP⟩ := nms_done HE (HZ.out)
      have HP := Lib.hid HP
      clear HE HJ
      go_wp2_with fail
      go_ret
      exact HP.out
theorem refStmtNames_any (w0 : World) : ∀ (N : Nat) (l : List (List D)), (∀ x ∈ l, ShS x) → mRows l ≤ 2000000 → (∀ x ∈ l, mRow x < N) → ∀ a cap, At w0 (.slice a l.length cap) (.row l) → ∀ W, Below w0.heap.size w0 W → Calls Tryz.prog 55 #[.slice a l.length cap] W (NmsPost (l.flatMap (nS N)) W)
  | 0, l, hs, hb, hlt, a, cap, hA, W, hW => by
    have h0 : l = [] := by
      cases l with
      | nil => rfl
      | cons x r => exact absurd (hlt x (by simp)) (Nat.not_lt_zero _)
    subst h0
    exact refStmtNames_step w0 0 a _ cap [] hA hs hb (by simp) (fun x hx => by simp at hx) W hW
  | N + 1, l, hs, hb, hlt, a, cap, hA, W, hW =>
    refStmtNames_step w0 N a _ cap l hA hs hb hlt (fun x hx l2 h2 hs2 a2 cap2 hA2 U hU => by
      have h3 := mRows_mem hx
      have h4 := mRow_sub h2
      have h5 := hlt x hx
      exact refStmtNames_any w0 N l2 hs2 (by omega) (fun y hy => by have := mRows_mem hy; omega) a2 cap2 hA2 U hU) W hW
end Go.Proofs.YtciijpahjjoppaaGreat
end
section
namespace Go.Proofs.YtciijpahjjoppaaGreat
open Go.RowKit Go.Deep Go.Shelf Go.Maps

structure AccB (w : World) (v : Value) (acc : List ByteArray) (rb : Nat) (cs : Array Value) (W : World) : Prop where
  j : AccJ w v acc W
  b : W.heap[rb]? = some (.cells cs 80)
theorem AccB.step {w : World} {v : Value} {acc : List ByteArray} {rb : Nat} {cs : Array Value} {W W' : World} (h : AccB w v acc rb cs W) (b : Below W.heap.size W W') : AccB w v acc rb cs W' := ⟨h.j.step b, (b.block _ (heap_lt h.b)).trans h.b⟩
theorem AccB.grown {w : World} {v v' : Value} {acc acc' : List ByteArray} {rb : Nat} {cs : Array Value} {W W' : World} (h : AccB w v acc rb cs W) (ho : OwnS w.heap.size W' v' acc') (hg : W.grownBy W' v.ownBlock) : AccB w v' acc' rb cs W' := by
  refine ⟨h.j.grown ho hg, (hg.block rb (heap_lt h.b) fun e => ?_).trans h.b⟩
  rcases h.j.own.2 with ⟨hv, _⟩ | ⟨q, cap, cur, hv, _, hq, _⟩
  · rw [hv] at e; simp [Value.ownBlock] at e
  · rw [hv] at e
    have e' : rb = q := by simpa [Value.ownBlock] using e
    have hb := h.b
    rw [e', hq] at hb
    cases hb
set_option maxRecDepth 100000 in
set_option maxHeartbeats 16000000 in
theorem refRoutineNames_step (w0 : World) (N : Nat) (a : Option Addr) (len cap : Nat) (l : List (List D)) (hA : At w0 (.slice a len cap) (.row l)) (hs : ∀ x ∈ l, ShR x) (hb : mRows l ≤ 2000000) (hlt : ∀ x ∈ l, mRow x < N + 1)
    (hrec : ∀ x ∈ l, ∀ l2, D.row l2 ∈ x → (∀ y ∈ l2, ShR y) → ∀ a2 cap2, At w0 (.slice a2 l2.length cap2) (.row l2) → ∀ W, Below w0.heap.size w0 W → Calls Tryz.prog 54 #[.slice a2 l2.length cap2] W (NmsPost (l2.flatMap (nR N)) W)) (W : World) (hW : Below w0.heap.size w0 W) :
    Calls Tryz.prog 54 #[.slice a len cap] W (NmsPost (l.flatMap (nR (N + 1))) W) := by
  have HA := Lib.hid hA
  have HS := Lib.hid hs
  have HW := Lib.hid hW
  have HR := Lib.hid hrec
  have HLT := Lib.hid hlt
  have hle := hA.len_le
  have HL := Lib.hid hA.len_eq.1
  have HT := Lib.hid (flat_len (h := nR (N + 1)) l fun y hy => (nR_ok (N + 1) (hs y hy)).1)
  have HZ := Lib.hid (flat_sz (h := nR (N + 1)) l (fun y hy => (nR_ok (N + 1) (hs y hy)).2) hb)
  have HBM := Lib.hid hb
  clear hA hs hW hb hrec hlt
  go_enter Tryz.func54, Tryz.ntmps54
  go_wp2_with fail
  go_loopw [3, 4] (fun u i wr => ∃ (k : Nat) (v : Value), k ≤ len ∧ v = u ∧ i = .int .i64 k ∧ Hid (AccJ W v ((l.take k).flatMap (nR (N + 1))) wr)) (fun _ i _ => len - (intOf i).toNat)
  case atStart => exact ⟨0, _, Nat.zero_le _, rfl, rfl, Lib.hid (AccJ.start W)⟩
  case round =>
    obtain ⟨k, v, hk, rfl, rfl, HJ⟩ := hrel
    by_cases hlt : k < len
    · obtain ⟨b, o, vs, ds, rfl, hbl, hx, hv, hc⟩ := HA.out.elem hlt
      have hmem := List.mem_of_getElem? hx
      have hrl := HR.out ds hmem
      have hltd := HLT.out ds hmem
      obtain ⟨m0, m1, nm, rs, ps, vr, inn, bd, en, m0a, m0c, m1a, m1c, psa, psc, vra, vrc, ina, inc, bda, bdc, ena, enc, hds, hvs, _, _, _, _, a_ps, a_vr, a_in, a_bd, _, _, _, t_ps, t_vr, t_in, t_bd, _⟩ := hv.openR (HS.out _ hmem)
      subst hvs
      have hdl : ds.length = 9 := by rw [hds]; rfl
      rw [hdl] at hc
      have HCV := Lib.hid hc
      have hvo := Lib.hid hv.one
      have hbm := mRows_mem hmem
      rw [hds] at hbm hltd
      simp only [mRow, mD] at hbm hltd
      have hz1 : nm.size ≤ 2000000 := by have := HBM.out; omega
      have BP := Lib.hid (show mRows ps ≤ 2000000 by have := HBM.out; omega)
      have KV := Lib.hid (fun (V : World) (hV : Below w0.heap.size w0 V) => refVarNames_any w0 vra vr.length vrc vr a_vr t_vr (by have := HBM.out; omega) V hV)
      have KI := Lib.hid (hrl inn (by rw [hds]; simp) t_in ina inc a_in)
      have KB := Lib.hid (refStmtNames_any w0 (N + 1) bd t_bd (by have := HBM.out; omega) (fun y hy => by have := mRows_mem hy; omega) bda bdc a_bd)
      have AP := Lib.hid a_ps
      have TP := Lib.hid t_ps
      have hlps := a_ps.len_le
      have ET := Lib.hid (show nR (N + 1) ds = parts nm ++ (ps.flatMap nP ++ (vr.flatMap nV ++ (inn.flatMap (nR N) ++ bd.flatMap (nS (N + 1))))) by rw [hds]; rfl)
      have BK := Lib.hid (show ((l.take k).flatMap (nR (N + 1))).length + ((parts nm).length + ((ps.flatMap nP).length + ((vr.flatMap nV).length + ((inn.flatMap (nR N)).length + (bd.flatMap (nS (N + 1))).length)))) ≤ 2000000 by have := take_flat (h := nR (N + 1)) hx; rw [ET.out] at this; simp only [List.length_append] at this; have := HT.out; have := HBM.out; omega)
      have TK := Lib.hid (show (l.take (k + 1)).flatMap (nR (N + 1)) = (((((l.take k).flatMap (nR (N + 1)) ++ parts nm) ++ ps.flatMap nP) ++ vr.flatMap nV) ++ inn.flatMap (nR N)) ++ bd.flatMap (nS (N + 1)) by rw [take_flat_succ hx, ET.out]; simp only [List.append_assoc])
      clear hx hds hdl hc hv hbm hmem hrl hltd a_ps a_vr a_in a_bd t_ps t_vr t_in t_bd ET
      generalize hnV : vr.flatMap nV = nV' at *
      generalize hnI : inn.flatMap (nR N) = nI at *
      generalize hnB : bd.flatMap (nS (N + 1)) = nB at *
      clear hnV hnI hnB
      have bw := Nat.lt_of_lt_of_le hbl (HJ.out.on HW.out).size
      have C0 := Lib.hid (show ∀ j u, ([.slice m0a m0.length m0c, .slice m1a m1.length m1c, .string nm, .int .i64 rs, .slice psa ps.length psc, .slice vra vr.length vrc, .slice ina inn.length inc, .slice bda bd.length bdc, .slice ena en.length enc] : List Value)[j]? = some u → wr.cell? ⟨b, o + k * 9 + j, none⟩ = some u from fun j u h => ((HJ.out.on HW.out).cell (p := ⟨b, o + k * 9 + j, none⟩) hbl).trans (HCV.out j u h))
      have J0 := Lib.hid (show AccB W v ((l.take k).flatMap (nR (N + 1))) wr.heap.size ⟨[.slice m0a m0.length m0c, .slice m1a m1.length m1c, .string nm, .int .i64 rs, .slice psa ps.length psc, .slice vra vr.length vrc, .slice ina inn.length inc, .slice bda bd.length bdc, .slice ena en.length enc]⟩ (wr.alloc (.cells ⟨[.slice m0a m0.length m0c, .slice m1a m1.length m1c, .string nm, .int .i64 rs, .slice psa ps.length psc, .slice vra vr.length vrc, .slice ina inn.length inc, .slice bda bd.length bdc, .slice ena en.length enc]⟩ 80)) from ⟨HJ.out.step ((Below.refl _ _).alloc (Nat.le_refl _) _), heap_new _ _⟩)
      have BTJ := Lib.hid (show (0 : Nat) ≤ 0 from Nat.le_refl _)
      have cB := box_cells J0.out.b
      go_wp2_with (first
        | ((with_reducible refine wp_loadAgg (o := ⟨some 16, _, _, _, _, _⟩) rfl (.tmp 15) 80 rfl 9 Tryz.isAgg80 Tryz.sizeOf80 b (o + k * 9) ?_ [.slice m0a m0.length m0c, .slice m1a m1.length m1c, .string nm, .int .i64 rs, .slice psa ps.length psc, .slice vra vr.length vrc, .slice ina inn.length inc, .slice bda bd.length bdc, .slice ena en.length enc] rfl C0.out ?_); rfl)
        | ((with_reducible refine wp_storeNew (o := ⟨none, .store 80 (.tmp 5) (.tmp 16), _, _, _, _⟩) rfl (.tmp 5) (.tmp 16) 80 rfl 9 Tryz.sizeOf80 _ ?_ ?_ [.slice m0a m0.length m0c, .slice m1a m1.length m1c, .string nm, .int .i64 rs, .slice psa ps.length psc, .slice vra vr.length vrc, .slice ina inn.length inc, .slice bda bd.length bdc, .slice ena en.length enc] ?_ rfl hvo.out ?_); rfl; rfl; rfl))
      refine (refPartsN nm hz1 _).mono ?_
      rintro e w1 ⟨a1, p1, rfl, s1, _, b1⟩
      have J1 := Lib.hid (J0.out.step b1)
      have U1 := Lib.hid s1
      clear b1 s1 cB
      clear bw
      go_wp2_with (first
        | (refine wp_appS rfl (.tmp 17) (.tmp 20) rfl J1.out.j.own J1.out.j.bel.size U1.out rfl rfl (by have := BK.out; have := BTJ.out; (try simp only [List.length_append]); omega) ?_; intro v2 w2 ho hg; have w2A := Lib.hid (J1.out.grown ho hg); clear ho hg; have cB := box_cells w2A.out.b))
      obtain ⟨wo, hwo⟩ : ∃ wo, wo = wr := ⟨_, rfl⟩
      obtain ⟨rb, hrb⟩ : ∃ rb, rb = wr.heap.size := ⟨_, rfl⟩
      rw [← hrb] at w2A cB ⊢
      clear hwo hrb C0 J0 J1 U1
      go_loopw [3, 6] (fun u i wr => ∃ (j : Nat) (v : Value), j ≤ ps.length ∧ v = u ∧ i = .int .i64 j ∧ Hid (AccB W v (((l.take k).flatMap (nR (N + 1)) ++ parts nm) ++ (ps.take j).flatMap nP) rb ⟨[.slice m0a m0.length m0c, .slice m1a m1.length m1c, .string nm, .int .i64 rs, .slice psa ps.length psc, .slice vra vr.length vrc, .slice ina inn.length inc, .slice bda bd.length bdc, .slice ena en.length enc]⟩ wr)) (fun _ i _ => ps.length - (intOf i).toNat)
      case atStart => exact ⟨0, _, Nat.zero_le _, rfl, rfl, by simpa using w2A⟩
      case round =>
        obtain ⟨j, v3, hj, rfl, rfl, HJE⟩ := hrel
        clear cB
        have cB := box_cells HJE.out.b
        by_cases hjt : j < ps.length
        · obtain ⟨b2, o2, us, es, rfl, hbl2, hy, hu, hc2⟩ := AP.out.elem hjt
          obtain ⟨pn, pkd, psz, ptn, pmd, hes, hus, _⟩ := hu.openP (TP.out _ (List.mem_of_getElem? hy))
          subst hus
          have hel : es.length = 5 := by rw [hes]; rfl
          rw [hel] at hc2
          have hbp := mRows_mem (List.mem_of_getElem? hy)
          rw [hes] at hbp
          simp only [mRow, mD] at hbp
          have hq1 : pn.size ≤ 2000000 := by have := BP.out; omega
          have hq2 : ptn.size ≤ 2000000 := by have := BP.out; omega
          have BTJ := Lib.hid (show ((ps.take j).flatMap nP).length + ((parts pn).length + (parts ptn).length) ≤ (ps.flatMap nP).length by have := take_flat (h := nP) hy; rw [hes] at this; simpa [nP] using this)
          have TP2 := Lib.hid (show (ps.take (j + 1)).flatMap nP = ((ps.take j).flatMap nP ++ parts pn) ++ parts ptn by rw [take_flat_succ hy, hes, List.append_assoc]; rfl)
          have HD0 := Lib.hid (hc2 0 _ rfl)
          have HD3 := Lib.hid (hc2 3 _ rfl)
          have bw2 := Nat.lt_of_lt_of_le hbl2 (HJE.out.j.on HW.out).size
          have d0 := ((HJE.out.j.on HW.out).cell (p := ⟨b2, o2 + j * 5, none⟩) hbl2).trans HD0.out
          clear hy hu hc2 hel hes hbp
          go_wp2_with fail
          refine (refPartsN pn hq1 _).mono ?_
          rintro e w5 ⟨a5, p5, rfl, s5, _, b5⟩
          have J5 := Lib.hid (HJE.out.step b5)
          have U5 := Lib.hid s5
          clear b5 s5 cB
          clear d0 bw2
          go_wp2_with (first
            | (refine wp_appS rfl (.tmp 29) (.tmp 36) rfl J5.out.j.own J5.out.j.bel.size U5.out rfl rfl (by have := BK.out; have := BTJ.out; (try simp only [List.length_append]); omega) ?_; intro v6 w6 ho hg; have w6A := Lib.hid (J5.out.grown ho hg); clear ho hg; have cB := box_cells w6A.out.b; have bw2 := Nat.lt_of_lt_of_le hbl2 (w6A.out.j.on HW.out).size; have d3 := ((w6A.out.j.on HW.out).cell (p := ⟨b2, o2 + j * 5 + 3, none⟩) hbl2).trans HD3.out))
          refine (refPartsN ptn hq2 _).mono ?_
          rintro e w7 ⟨a7, p7, rfl, s7, _, b7⟩
          have J7 := Lib.hid (w6A.out.step b7)
          have U7 := Lib.hid s7
          clear b7 s7 cB
          clear d3 bw2
          go_wp2_with (first
            | (refine wp_appS rfl (.tmp 38) (.tmp 46) rfl J7.out.j.own J7.out.j.bel.size U7.out rfl rfl (by have := BK.out; have := BTJ.out; (try simp only [List.length_append]); omega) ?_; intro v8 w8 ho hg; have w8A := Lib.hid (J7.out.grown ho hg); clear ho hg))
          go_roundw
          case rel => exact ⟨j + 1, v8, by omega, rfl, by go_num, by rw [TP2.out, ← List.append_assoc, ← List.append_assoc]; exact w8A⟩
          case measure => simp [intOf]; omega
        · obtain rfl : j = ps.length := by omega
          have JX := Lib.hid (by have h := HJE.out; rw [List.take_length] at h; exact h : AccB W v3 (((l.take k).flatMap (nR (N + 1)) ++ parts nm) ++ ps.flatMap nP) rb ⟨[.slice m0a m0.length m0c, .slice m1a m1.length m1c, .string nm, .int .i64 rs, .slice psa ps.length psc, .slice vra vr.length vrc, .slice ina inn.length inc, .slice bda bd.length bdc, .slice ena en.length enc]⟩ wr)
          clear HJE
          go_wp2_with fail
          refine (KV.out _ (JX.out.j.on HW.out)).mono ?_
          rintro e w9 ⟨a9, p9, rfl, s9, _, b9⟩
          have J9 := Lib.hid (JX.out.step b9)
          have U9 := Lib.hid s9
          clear b9 s9 cB
          go_wp2_with (first
            | (refine wp_appS rfl (.tmp 48) (.tmp 51) rfl J9.out.j.own J9.out.j.bel.size U9.out rfl rfl (by have := BK.out; have := BTJ.out; (try simp only [List.length_append]); omega) ?_; intro v10 w10 ho hg; have w10A := Lib.hid (J9.out.grown ho hg); clear ho hg; have cB := box_cells w10A.out.b))
          refine (KI.out _ (w10A.out.j.on HW.out)).mono ?_
          rintro e w11 ⟨a11, p11, rfl, s11, _, b11⟩
          have J11 := Lib.hid (w10A.out.step b11)
          have U11 := Lib.hid s11
          clear b11 s11 cB
          go_wp2_with (first
            | (refine wp_appS rfl (.tmp 53) (.tmp 56) rfl J11.out.j.own J11.out.j.bel.size U11.out rfl rfl (by have := BK.out; have := BTJ.out; (try simp only [List.length_append]); omega) ?_; intro v12 w12 ho hg; have w12A := Lib.hid (J11.out.grown ho hg); clear ho hg; have cB := box_cells w12A.out.b))
          refine (KB.out _ (w12A.out.j.on HW.out)).mono ?_
          rintro e w13 ⟨a13, p13, rfl, s13, _, b13⟩
          have J13 := Lib.hid (w12A.out.step b13)
          have U13 := Lib.hid s13
          clear b13 s13 cB
          go_wp2_with (first
            | (refine wp_appS rfl (.tmp 58) (.tmp 61) rfl J13.out.j.own J13.out.j.bel.size U13.out rfl rfl (by have := BK.out; have := BTJ.out; (try simp only [List.length_append]); omega) ?_; intro v14 w14 ho hg; have w14A := Lib.hid (J13.out.grown ho hg); clear ho hg))
          go_roundw
          case rel => exact ⟨k + 1, v14, by omega, rfl, by go_num, by rw [TK.out]; exact Lib.hid w14A.out.j⟩
          case measure => simp [intOf]; omega
    · obtain rfl : k = len := by omega
      have HE := HJ.out
      rw [show l.take k = l by rw [← HL.out, List.take_length]] at HE
      obtain ⟨a', cap', rfl, HP⟩ := nms_done HE (HZ.out)
      have HP := Lib.hid HP
      clear HE HJ
      go_wp2_with fail
      go_ret
      exact HP.out
theorem refRoutineNames_any (w0 : World) : ∀ (N : Nat) (l : List (List D)), (∀ x ∈ l, ShR x) → mRows l ≤ 2000000 → (∀ x ∈ l, mRow x < N) → ∀ a cap, At w0 (.slice a l.length cap) (.row l) → ∀ W, Below w0.heap.size w0 W → Calls Tryz.prog 54 #[.slice a l.length cap] W (NmsPost (l.flatMap (nR N)) W)
  | 0, l, hs, hb, hlt, a, cap, hA, W, hW => by
    have h0 : l = [] := by
      cases l with
      | nil => rfl
      | cons x r => exact absurd (hlt x (by simp)) (Nat.not_lt_zero _)
    subst h0
    exact refRoutineNames_step w0 0 a _ cap [] hA hs hb (by simp) (fun x hx => by simp at hx) W hW
  | N + 1, l, hs, hb, hlt, a, cap, hA, W, hW =>
    refRoutineNames_step w0 N a _ cap l hA hs hb hlt (fun x hx l2 h2 hs2 a2 cap2 hA2 U hU => by
      have h3 := mRows_mem hx
      have h4 := mRow_sub h2
      have h5 := hlt x hx
      exact refRoutineNames_any w0 N l2 hs2 (by omega) (fun y hy => by have := mRows_mem hy; omega) a2 cap2 hA2 U hU) W hW
end Go.Proofs.YtciijpahjjoppaaGreat
end
