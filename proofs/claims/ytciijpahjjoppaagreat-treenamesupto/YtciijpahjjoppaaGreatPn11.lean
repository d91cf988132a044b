/-
  Texts of this proof, put together.
-/
import Derived.Test.YtciijpahjjoppaaGreatPn10
section
namespace Go.Proofs.YtciijpahjjoppaaGreat
open Go.RowKit Go.Shelf Go.Deep
set_option maxRecDepth 100000 in
set_option maxHeartbeats 16000000 in
theorem tmP_any {σ : Type} {g : Nat} {c1 c2 : Value} (C : Clo σ g c1 c2) (hg : g = 50 ∨ g = 59) (hout : ∀ s x, x.size ≤ lim → (C.out s x).size ≤ lim) (w0 : World) (hlow : w0.heap.size ≤ C.low) (x : List D) (hx : ShP x) (hb : mRow x ≤ 8000000)  : TFn C w0 129 (tP C) (nP) x := by
  intro vs hv n m st W hm hI hW
  obtain ⟨nm, kd, sz, tn, md, rfl, rfl, i_nm, _, _, i_tn, _⟩ := hv.openP hx
  simp only [mRow, mD] at hb
  have hm2 : n + ((parts nm).length + ((parts tn).length + 0)) ≤ m := by simp only [nP, List.length_append] at hm; omega
  have J0 := Lib.hid (BxD.start C hlow (T := 133) (cs := #[.string nm, .int .i64 kd, .int .i64 sz, .string tn, .int .i64 md]) (ds := [.str nm, .int kd, .int sz, .str tn, .int md]) (zs := #[.string ⟨#[]⟩, .int .i64 0, .int .i64 0, .string ⟨#[]⟩, .int .i64 0]) rfl (C.atLeast hI hm2) hW hv)
  have HG := Lib.hid hg
  have HLW := Lib.hid hW.size
  have HLOW := Lib.hid hlow
  have HOUT := Lib.hid hout
  have HGR := Lib.hid (fun (V : World) (k : Kept C.O C.hi W V) => k.ground hI hlow hW)
  clear hI hg hW hlow hout hm hm2 hv hx  
  go_enter Tryz.func129, Tryz.ntmps129
  go_wp2_with fail
  refine (name_any C HG.out (n + ((parts tn).length + 0)) st nm _ (C.atLeast J0.out.j.i (by omega)) (by unfold lim; omega)).mono ?_
  rintro e W1 ⟨rfl, i1, k1⟩
  have Q1 := Lib.hid (J0.out.called k1 i1)
  have M1 := Lib.hid (nm_le C HOUT.out st nm (by omega))
  clear i1 k1
  generalize hq1 : C.nm st nm = q1 at *
  have HQ1 := Lib.hid hq1
  clear hq1
  have cA1 := box_cells Q1.out.j.bt
  have cB1 : ∀ i, W1.cell? ⟨W.heap.size + 1, i, none⟩ = (#[.string nm, .int .i64 kd, .int .i64 sz, .string tn, .int .i64 md] : Array Value)[i]? := box_cells Q1.out.j.bx
  have fB1 := frozen_box Q1.out.j.bx
  go_wp2_with fail
  have R1 := Lib.hid (show BxD C w0.heap.size (n + ((parts tn).length + 0)) W q1.2 133 [.string q1.1, .int .i64 kd, .int .i64 sz, .string tn, .int .i64 md] [.str q1.1, .int kd, .int sz, .str tn, .int md] (W1.setCell ⟨W.heap.size + 1, 0, none⟩ (.string q1.1)) from Q1.out.set HLW.out 0 (.string q1.1) (.str q1.1) (.str _ M1.out))
  refine (name_any C HG.out (n + 0) q1.2 tn _ (C.atLeast R1.out.j.i (by omega)) (by unfold lim; omega)).mono ?_
  rintro e W2 ⟨rfl, i2, k2⟩
  have Q2 := Lib.hid (R1.out.called k2 i2)
  have M2 := Lib.hid (nm_le C HOUT.out q1.2 tn (by omega))
  clear i2 k2 cA1 cB1 fB1
  generalize hq2 : C.nm q1.2 tn = q2 at *
  have HQ2 := Lib.hid hq2
  clear hq2
  have cA2 := box_cells Q2.out.j.bt
  have cB2 : ∀ i, W2.cell? ⟨W.heap.size + 1, i, none⟩ = (#[.string q1.1, .int .i64 kd, .int .i64 sz, .string tn, .int .i64 md] : Array Value)[i]? := box_cells Q2.out.j.bx
  have fB2 := frozen_box Q2.out.j.bx
  have R2 := Lib.hid (show BxD C w0.heap.size (n + 0) W q2.2 133 [.string q1.1, .int .i64 kd, .int .i64 sz, .string q2.1, .int .i64 md] [.str q1.1, .int kd, .int sz, .str q2.1, .int md] (W2.setCell ⟨W.heap.size + 1, 3, none⟩ (.string q2.1)) from Q2.out.set HLW.out 3 (.string q2.1) (.str q2.1) (.str _ M2.out))
  have CL := Lib.hid (show ∀ (i : Nat) (v : Value), ([.string q1.1, .int .i64 kd, .int .i64 sz, .string q2.1, .int .i64 md] : List Value)[i]? = some v → (W2.setCell ⟨W.heap.size + 1, 3, none⟩ (.string q2.1)).cell? ⟨W.heap.size + 1, 0 + i, none⟩ = some v from fun i v hv => by rw [box_cells R2.out.j.bx, Nat.zero_add]; simpa using hv)
  obtain ⟨zs, z1, z2⟩ := R2.out.j.br
  have Z1 := Lib.hid (show zs.length = 5 from z1)
  have LN := Lib.hid (show ([.string q1.1, .int .i64 kd, .int .i64 sz, .string q2.1, .int .i64 md] : List Value).length = 5 from rfl)
  have ON := Lib.hid (show ∀ v ∈ ([.string q1.1, .int .i64 kd, .int .i64 sz, .string q2.1, .int .i64 md] : List Value), v.oneCell' = true from AllAt.one R2.out.d)
  have Z2 := Lib.hid z2
  clear z1 z2
  go_wp2_with (first
    | ((with_reducible refine wp_loadAgg (o := ⟨some 17, _, _, _, _, _⟩) rfl (.tmp 3) 133 rfl 5 Tryz.isAgg133 Tryz.sizeOf133 (W.heap.size + 1) 0 ?_ [.string q1.1, .int .i64 kd, .int .i64 sz, .string q2.1, .int .i64 md] LN.out CL.out ?_); rfl)
    | ((with_reducible refine wp_storeOld (o := ⟨none, .store 133 (.tmp 4) (.tmp 17), _, _, _, _⟩) rfl (.tmp 4) (.tmp 17) 133 rfl 5 Tryz.sizeOf133 (W.heap.size + 2) zs Z1.out 133 Z2.out ?_ [.string q1.1, .int .i64 kd, .int .i64 sz, .string q2.1, .int .i64 md] ?_ LN.out ON.out ?_); rfl; rfl))
  refine bodyPost_ret (v := .agg ⟨[.string q1.1, .int .i64 kd, .int .i64 sz, .string q2.1, .int .i64 md]⟩) ?_ rfl ?_
  · exact results_cell (i := 4) (b := W.heap.size + 2) Tryz.results129 Tryz.isAgg133 Tryz.sizeOf133 rfl rfl R2.out.j.last.1
  · have HO : tP C st [.str nm, .int kd, .int sz, .str tn, .int md] = ([.str q1.1, .int kd, .int sz, .str q2.1, .int md], q2.2) := by
      show (([.str (C.nm st nm).1, .int kd, .int sz, .str (C.nm (C.nm st nm).2 tn).1, .int md] : List D), (C.nm (C.nm st nm).2 tn).2) = _
      rw [HQ1.out, HQ2.out]
    rw [HO]
    exact ⟨[.string q1.1, .int .i64 kd, .int .i64 sz, .string q2.1, .int .i64 md], rfl, R2.out.last HLW.out, R2.out.j.last.2.1, R2.out.j.last.2.2⟩
end Go.Proofs.YtciijpahjjoppaaGreat
end
section
namespace Go.Proofs.YtciijpahjjoppaaGreat
open Go.RowKit Go.Shelf Go.Deep
set_option maxRecDepth 100000 in
set_option maxHeartbeats 16000000 in
theorem tmC_any {σ : Type} {g : Nat} {c1 c2 : Value} (C : Clo σ g c1 c2) (hg : g = 50 ∨ g = 59) (hout : ∀ s x, x.size ≤ lim → (C.out s x).size ≤ lim) (w0 : World) (hlow : w0.heap.size ≤ C.low) (x : List D) (hx : ShC x) (hb : mRow x ≤ 8000000) (hF : ∀ y, ShF y → mRow y ≤ mRow x → TFn C w0 127 (tF C) nF y) : TFn C w0 89 (tC C) (nC) x := by
  intro vs hv n m st W hm hI hW
  obtain ⟨m0, m1, nm, fs, en, m0a, m0c, m1a, m1c, fsa, fsc, ena, enc, rfl, rfl, a_m0, a_m1, i_nm, a_fs, a_en, t_m0, t_m1, t_fs, t_en⟩ := hv.openC hx
  have F_fs := Lib.hid (fun y (hy : y ∈ fs) => hF y (t_fs y hy) (by have := mRows_mem hy; simp only [mRow, mD]; omega))
  simp only [mRow, mD] at hb
  have l_m0 : m0.length ≤ 8000000 := by have := mRows_len m0 (fun y hy e => by rw [e] at hy; cases t_m0 _ hy); omega
  have l_m1 : m1.length ≤ 8000000 := by have := mRows_len m1 (fun y hy e => by rw [e] at hy; cases t_m1 _ hy); omega
  have l_fs : fs.length ≤ 8000000 := by have := mRows_len fs (fun y hy e => by rw [e] at hy; cases t_fs _ hy); omega
  have l_en : en.length ≤ 8000000 := by have := mRows_len en (fun y hy e => by rw [e] at hy; cases t_en _ hy); omega
  have hm2 : n + ((parts nm).length + ((fs.flatMap nF).length + 0)) ≤ m := by simp only [nC, List.length_append] at hm; omega
  have J0 := Lib.hid (BxD.start C hlow (T := 62) (cs := #[.slice m0a m0.length m0c, .slice m1a m1.length m1c, .string nm, .slice fsa fs.length fsc, .slice ena en.length enc]) (ds := [.row m0, .row m1, .str nm, .row fs, .row en]) (zs := #[.slice none 0 0, .slice none 0 0, .string ⟨#[]⟩, .slice none 0 0, .slice none 0 0]) rfl (C.atLeast hI hm2) hW hv)
  have HG := Lib.hid hg
  have HLW := Lib.hid hW.size
  have HLOW := Lib.hid hlow
  have HOUT := Lib.hid hout
  have HGR := Lib.hid (fun (V : World) (k : Kept C.O C.hi W V) => k.ground hI hlow hW)
  have A_m0 := Lib.hid a_m0
  have T_m0 := Lib.hid t_m0
  have A_m1 := Lib.hid a_m1
  have T_m1 := Lib.hid t_m1
  have A_fs := Lib.hid a_fs
  have T_fs := Lib.hid t_fs
  have A_en := Lib.hid a_en
  have T_en := Lib.hid t_en
  clear hI hg hW hlow hout hm hm2 hv hx a_m0 a_m1 a_fs a_en t_m0 t_m1 t_fs t_en hF
  go_enter Tryz.func89, Tryz.ntmps89
  go_wp2_with fail
  refine (tmarks_any C w0 HLOW.out m0 m1 m0a m0c m1a m1c A_m0.out A_m1.out T_m0.out T_m1.out l_m0 l_m1 (n + ((parts nm).length + ((fs.flatMap nF).length + 0))) st _ J0.out.j.i (HGR.out _ J0.out.j.kept)).mono ?_
  rintro e W1 ⟨p1, o1, p1b, o1b, rfl, d1, d1b, i1, k1⟩
  have Q1 := Lib.hid (J0.out.called k1 i1)
  have M1 := Lib.hid (show AllAt (NewN C w0.heap.size (W.heap.size + 3) W1) [.slice p1 m0.length o1, .slice p1b m1.length o1b] [.row m0, .row m1] from ⟨d1.sub (newN_less J0.out.j.sz), d1b.sub (newN_less J0.out.j.sz), trivial⟩)
  clear i1 k1 d1 d1b
  have cA1 := box_cells Q1.out.j.bt
  have cB1 : ∀ i, W1.cell? ⟨W.heap.size + 1, i, none⟩ = (#[.slice m0a m0.length m0c, .slice m1a m1.length m1c, .string nm, .slice fsa fs.length fsc, .slice ena en.length enc] : Array Value)[i]? := box_cells Q1.out.j.bx
  have fB1 := frozen_box Q1.out.j.bx
  have ON1 := Lib.hid (show ∀ v ∈ ([.slice p1 m0.length o1, .slice p1b m1.length o1b] : List Value), v.oneCell' = true from AllAt.one M1.out)
  go_wp2_with (first | ((with_reducible refine wp_storeOff (o := ⟨none, .store 59 (.tmp 9) (.tmp 8), _, _, _, _⟩) rfl (.tmp 9) (.tmp 8) 59 rfl 2 Tryz.sizeOf59 (W.heap.size + 1) 0 [.slice m0a m0.length m0c, .slice m1a m1.length m1c, .string nm, .slice fsa fs.length fsc, .slice ena en.length enc] (by decide) 62 Q1.out.j.bx ?_ [.slice p1 m0.length o1, .slice p1b m1.length o1b] ?_ rfl ON1.out ?_); rfl; rfl))
  have R1 := Lib.hid (show BxD C w0.heap.size (n + ((parts nm).length + ((fs.flatMap nF).length + 0))) W st 62 [.slice p1 m0.length o1, .slice p1b m1.length o1b, .string nm, .slice fsa fs.length fsc, .slice ena en.length enc] [.row m0, .row m1, .str nm, .row fs, .row en] (W1.setCells (W.heap.size + 1) 0 [.slice p1 m0.length o1, .slice p1b m1.length o1b]) from BxD.sets HLW.out 0 Q1.out M1.out)
  refine (name_any C HG.out (n + ((fs.flatMap nF).length + 0)) st nm _ (C.atLeast R1.out.j.i (by omega)) (by unfold lim; omega)).mono ?_
  rintro e W2 ⟨rfl, i2, k2⟩
  have Q2 := Lib.hid (R1.out.called k2 i2)
  have M2 := Lib.hid (nm_le C HOUT.out st nm (by omega))
  clear i2 k2 cA1 cB1 fB1
  generalize hq1 : C.nm st nm = q1 at *
  have HQ1 := Lib.hid hq1
  clear hq1
  have cA2 := box_cells Q2.out.j.bt
  have cB2 : ∀ i, W2.cell? ⟨W.heap.size + 1, i, none⟩ = (#[.slice p1 m0.length o1, .slice p1b m1.length o1b, .string nm, .slice fsa fs.length fsc, .slice ena en.length enc] : Array Value)[i]? := box_cells Q2.out.j.bx
  have fB2 := frozen_box Q2.out.j.bx
  go_wp2_with fail
  have R2 := Lib.hid (show BxD C w0.heap.size (n + ((fs.flatMap nF).length + 0)) W q1.2 62 [.slice p1 m0.length o1, .slice p1b m1.length o1b, .string q1.1, .slice fsa fs.length fsc, .slice ena en.length enc] [.row m0, .row m1, .str q1.1, .row fs, .row en] (W2.setCell ⟨W.heap.size + 1, 2, none⟩ (.string q1.1)) from Q2.out.set HLW.out 2 (.string q1.1) (.str q1.1) (.str _ M2.out))
  refine (turnF_any C w0 HLOW.out (tF C) nF fsa fs.length fsc fs A_fs.out T_fs.out l_fs F_fs.out (fun y hy s => tF_len C s (T_fs.out y hy)) (n + 0) _ q1.2 (by omega) _ R2.out.j.i (HGR.out _ R2.out.j.kept)).mono ?_
  rintro e W3 ⟨p3, o3, rfl, d3, i3, k3⟩
  have Q3 := Lib.hid (R2.out.called k3 i3)
  have M3 := Lib.hid (d3.sub (newN_less R2.out.j.sz))
  clear i3 k3 d3 cA2 cB2 fB2
  generalize hq2 : turnL (tF C) q1.2 fs = q2 at *
  have HQ2 := Lib.hid hq2
  clear hq2
  have cA3 := box_cells Q3.out.j.bt
  have cB3 : ∀ i, W3.cell? ⟨W.heap.size + 1, i, none⟩ = (#[.slice p1 m0.length o1, .slice p1b m1.length o1b, .string q1.1, .slice fsa fs.length fsc, .slice ena en.length enc] : Array Value)[i]? := box_cells Q3.out.j.bx
  have fB3 := frozen_box Q3.out.j.bx
  go_wp2_with fail
  have R3 := Lib.hid (show BxD C w0.heap.size (n + 0) W q2.2 62 [.slice p1 m0.length o1, .slice p1b m1.length o1b, .string q1.1, .slice p3 q2.1.length o3, .slice ena en.length enc] [.row m0, .row m1, .str q1.1, .row q2.1, .row en] (W3.setCell ⟨W.heap.size + 1, 3, none⟩ (.slice p3 q2.1.length o3)) from Q3.out.set HLW.out 3 (.slice p3 q2.1.length o3) (.row q2.1) M3.out)
  refine (tnotes_any C w0 HLOW.out ena en.length enc en A_en.out T_en.out l_en (n + 0) q2.2 _ R3.out.j.i (HGR.out _ R3.out.j.kept)).mono ?_
  rintro e W4 ⟨p4, o4, rfl, d4, i4, k4⟩
  have Q4 := Lib.hid (R3.out.called k4 i4)
  have M4 := Lib.hid (d4.sub (newN_less R3.out.j.sz))
  clear i4 k4 d4 cA3 cB3 fB3
  have cA4 := box_cells Q4.out.j.bt
  have cB4 : ∀ i, W4.cell? ⟨W.heap.size + 1, i, none⟩ = (#[.slice p1 m0.length o1, .slice p1b m1.length o1b, .string q1.1, .slice p3 q2.1.length o3, .slice ena en.length enc] : Array Value)[i]? := box_cells Q4.out.j.bx
  have fB4 := frozen_box Q4.out.j.bx
  have R4 := Lib.hid (show BxD C w0.heap.size (n + 0) W q2.2 62 [.slice p1 m0.length o1, .slice p1b m1.length o1b, .string q1.1, .slice p3 q2.1.length o3, .slice p4 en.length o4] [.row m0, .row m1, .str q1.1, .row q2.1, .row en] (W4.setCell ⟨W.heap.size + 1, 4, none⟩ (.slice p4 en.length o4)) from Q4.out.set HLW.out 4 (.slice p4 en.length o4) (.row en) M4.out)
  have CL := Lib.hid (show ∀ (i : Nat) (v : Value), ([.slice p1 m0.length o1, .slice p1b m1.length o1b, .string q1.1, .slice p3 q2.1.length o3, .slice p4 en.length o4] : List Value)[i]? = some v → (W4.setCell ⟨W.heap.size + 1, 4, none⟩ (.slice p4 en.length o4)).cell? ⟨W.heap.size + 1, 0 + i, none⟩ = some v from fun i v hv => by rw [box_cells R4.out.j.bx, Nat.zero_add]; simpa using hv)
  obtain ⟨zs, z1, z2⟩ := R4.out.j.br
  have Z1 := Lib.hid (show zs.length = 5 from z1)
  have LN := Lib.hid (show ([.slice p1 m0.length o1, .slice p1b m1.length o1b, .string q1.1, .slice p3 q2.1.length o3, .slice p4 en.length o4] : List Value).length = 5 from rfl)
  have ON := Lib.hid (show ∀ v ∈ ([.slice p1 m0.length o1, .slice p1b m1.length o1b, .string q1.1, .slice p3 q2.1.length o3, .slice p4 en.length o4] : List Value), v.oneCell' = true from AllAt.one R4.out.d)
  have Z2 := Lib.hid z2
  clear z1 z2
  go_wp2_with (first
    | ((with_reducible refine wp_loadAgg (o := ⟨some 26, _, _, _, _, _⟩) rfl (.tmp 3) 62 rfl 5 Tryz.isAgg62 Tryz.sizeOf62 (W.heap.size + 1) 0 ?_ [.slice p1 m0.length o1, .slice p1b m1.length o1b, .string q1.1, .slice p3 q2.1.length o3, .slice p4 en.length o4] LN.out CL.out ?_); rfl)
    | ((with_reducible refine wp_storeOld (o := ⟨none, .store 62 (.tmp 4) (.tmp 26), _, _, _, _⟩) rfl (.tmp 4) (.tmp 26) 62 rfl 5 Tryz.sizeOf62 (W.heap.size + 2) zs Z1.out 62 Z2.out ?_ [.slice p1 m0.length o1, .slice p1b m1.length o1b, .string q1.1, .slice p3 q2.1.length o3, .slice p4 en.length o4] ?_ LN.out ON.out ?_); rfl; rfl))
  refine bodyPost_ret (v := .agg ⟨[.slice p1 m0.length o1, .slice p1b m1.length o1b, .string q1.1, .slice p3 q2.1.length o3, .slice p4 en.length o4]⟩) ?_ rfl ?_
  · exact results_cell (i := 4) (b := W.heap.size + 2) Tryz.results89 Tryz.isAgg62 Tryz.sizeOf62 rfl rfl R4.out.j.last.1
  · have HO : tC C st [.row m0, .row m1, .str nm, .row fs, .row en] = ([.row m0, .row m1, .str q1.1, .row q2.1, .row en], q2.2) := by
      show (([.row m0, .row m1, .str (C.nm st nm).1, .row (turnL (tF C) (C.nm st nm).2 fs).1, .row en] : List D), (turnL (tF C) (C.nm st nm).2 fs).2) = _
      rw [HQ1.out, HQ2.out]
    rw [HO]
    exact ⟨[.slice p1 m0.length o1, .slice p1b m1.length o1b, .string q1.1, .slice p3 q2.1.length o3, .slice p4 en.length o4], rfl, R4.out.last HLW.out, R4.out.j.last.2.1, R4.out.j.last.2.2⟩
end Go.Proofs.YtciijpahjjoppaaGreat
end
section
namespace Go.Proofs.YtciijpahjjoppaaGreat
open Go.RowKit Go.Shelf Go.Deep
set_option maxRecDepth 100000 in
set_option maxHeartbeats 16000000 in
theorem tmS_any {σ : Type} {g : Nat} {c1 c2 : Value} (C : Clo σ g c1 c2) (hg : g = 50 ∨ g = 59) (hout : ∀ s x, x.size ≤ lim → (C.out s x).size ≤ lim) (w0 : World) (hlow : w0.heap.size ≤ C.low) (N : Nat) (x : List D) (hx : ShS x) (hb : mRow x ≤ 8000000) (hE : ∀ y, ShE y → mRow y ≤ mRow x → TFn C w0 130 (tE C (N + 1)) (nE (N + 1)) y) (hS : ∀ l, D.row l ∈ x → (∀ y ∈ l, ShS y) → ∀ y ∈ l, TFn C w0 95 (tS C N) (nS N) y) : TFn C w0 95 (tS C (N + 1)) (nS (N + 1)) x := by
  intro vs hv n m st W hm hI hW
  obtain ⟨m0, m1, op, nm, pop, pn, pnm, pfd, pl, ex, dn, mo, bd, el, en, e2, m0a, m0c, m1a, m1c, pla, plc, exa, exc, bda, bdc, ela, elc, ena, enc, e2a, e2c, rfl, rfl, a_m0, a_m1, _, i_nm, _, _, i_pnm, i_pfd, a_pl, a_ex, a_bd, a_el, a_en, a_e2, t_m0, t_m1, t_pl, t_ex, t_bd, t_el, t_en, t_e2⟩ := hv.openS hx
  have F_p := Lib.hid (hE [.int pop, .int pn, .str pnm, .str pfd, .row pl] (.mk pop pn pnm pfd pl t_pl) (by simp only [mRow, mD]; omega))
  have F_ex := Lib.hid (fun y (hy : y ∈ ex) => hE y (t_ex y hy) (by have := mRows_mem hy; simp only [mRow, mD]; omega))
  have F_bd := Lib.hid (hS bd (by simp) t_bd)
  have F_el := Lib.hid (hS el (by simp) t_el)
  simp only [mRow, mD] at hb
  have l_m0 : m0.length ≤ 8000000 := by have := mRows_len m0 (fun y hy e => by rw [e] at hy; cases t_m0 _ hy); omega
  have l_m1 : m1.length ≤ 8000000 := by have := mRows_len m1 (fun y hy e => by rw [e] at hy; cases t_m1 _ hy); omega
  have l_ex : ex.length ≤ 8000000 := by have := mRows_len ex (fun y hy e => by rw [e] at hy; cases t_ex _ hy); omega
  have l_bd : bd.length ≤ 8000000 := by have := mRows_len bd (fun y hy e => by rw [e] at hy; cases t_bd _ hy); omega
  have l_el : el.length ≤ 8000000 := by have := mRows_len el (fun y hy e => by rw [e] at hy; cases t_el _ hy); omega
  have l_en : en.length ≤ 8000000 := by have := mRows_len en (fun y hy e => by rw [e] at hy; cases t_en _ hy); omega
  have l_e2 : e2.length ≤ 8000000 := by have := mRows_len e2 (fun y hy e => by rw [e] at hy; cases t_e2 _ hy); omega
  have hm2 : n + ((parts nm).length + (((parts pnm).length + ((parts pfd).length + (pl.flatMap (nE N)).length)) + ((ex.flatMap (nE (N + 1))).length + ((bd.flatMap (nS N)).length + ((el.flatMap (nS N)).length + 0))))) ≤ m := by simp only [nS, List.length_append] at hm; omega
  have J0 := Lib.hid (BxD.start C hlow (T := 84) (cs := #[.slice m0a m0.length m0c, .slice m1a m1.length m1c, .int .i64 op, .string nm, .int .i64 pop, .int .i64 pn, .string pnm, .string pfd, .slice pla pl.length plc, .slice exa ex.length exc, .bool dn, .bool mo, .slice bda bd.length bdc, .slice ela el.length elc, .slice ena en.length enc, .slice e2a e2.length e2c]) (ds := [.row m0, .row m1, .int op, .str nm, .int pop, .int pn, .str pnm, .str pfd, .row pl, .row ex, .bool dn, .bool mo, .row bd, .row el, .row en, .row e2]) (zs := #[.slice none 0 0, .slice none 0 0, .int .i64 0, .string ⟨#[]⟩, .int .i64 0, .int .i64 0, .string ⟨#[]⟩, .string ⟨#[]⟩, .slice none 0 0, .slice none 0 0, .bool false, .bool false, .slice none 0 0, .slice none 0 0, .slice none 0 0, .slice none 0 0]) rfl (C.atLeast hI hm2) hW hv)
  have HG := Lib.hid hg
  have HLW := Lib.hid hW.size
  have HLOW := Lib.hid hlow
  have HOUT := Lib.hid hout
  have HGR := Lib.hid (fun (V : World) (k : Kept C.O C.hi W V) => k.ground hI hlow hW)
  have A_m0 := Lib.hid a_m0
  have T_m0 := Lib.hid t_m0
  have A_m1 := Lib.hid a_m1
  have T_m1 := Lib.hid t_m1
  have A_ex := Lib.hid a_ex
  have T_ex := Lib.hid t_ex
  have A_bd := Lib.hid a_bd
  have T_bd := Lib.hid t_bd
  have A_el := Lib.hid a_el
  have T_el := Lib.hid t_el
  have A_en := Lib.hid a_en
  have T_en := Lib.hid t_en
  have A_e2 := Lib.hid a_e2
  have T_e2 := Lib.hid t_e2
  have V_p := Lib.hid (show AllAt w0 [.int .i64 pop, .int .i64 pn, .string pnm, .string pfd, .slice pla pl.length plc] [.int pop, .int pn, .str pnm, .str pfd, .row pl] from (show AllAt w0 (([.slice m0a m0.length m0c, .slice m1a m1.length m1c, .int .i64 op, .string nm] : List Value) ++ ([.int .i64 pop, .int .i64 pn, .string pnm, .string pfd, .slice pla pl.length plc] ++ [.slice exa ex.length exc, .bool dn, .bool mo, .slice bda bd.length bdc, .slice ela el.length elc, .slice ena en.length enc, .slice e2a e2.length e2c])) (([.row m0, .row m1, .int op, .str nm] : List D) ++ ([.int pop, .int pn, .str pnm, .str pfd, .row pl] ++ [.row ex, .bool dn, .bool mo, .row bd, .row el, .row en, .row e2])) from hv) |> fun h => ⟨h.2.2.2.2.1, h.2.2.2.2.2.1, h.2.2.2.2.2.2.1, h.2.2.2.2.2.2.2.1, h.2.2.2.2.2.2.2.2.1, trivial⟩)
  clear hI hg hW hlow hout hm hm2 hv hx a_m0 a_m1 a_ex a_bd a_el a_en a_e2 t_m0 t_m1 t_ex t_bd t_el t_en t_e2 hE hS
  go_enter Tryz.func95, Tryz.ntmps95
  go_wp2_with fail
  refine (tmarks_any C w0 HLOW.out m0 m1 m0a m0c m1a m1c A_m0.out A_m1.out T_m0.out T_m1.out l_m0 l_m1 (n + ((parts nm).length + (((parts pnm).length + ((parts pfd).length + (pl.flatMap (nE N)).length)) + ((ex.flatMap (nE (N + 1))).length + ((bd.flatMap (nS N)).length + ((el.flatMap (nS N)).length + 0)))))) st _ J0.out.j.i (HGR.out _ J0.out.j.kept)).mono ?_
  rintro e W1 ⟨p1, o1, p1b, o1b, rfl, d1, d1b, i1, k1⟩
  have Q1 := Lib.hid (J0.out.called k1 i1)
  have M1 := Lib.hid (show AllAt (NewN C w0.heap.size (W.heap.size + 3) W1) [.slice p1 m0.length o1, .slice p1b m1.length o1b] [.row m0, .row m1] from ⟨d1.sub (newN_less J0.out.j.sz), d1b.sub (newN_less J0.out.j.sz), trivial⟩)
  clear i1 k1 d1 d1b
  have cA1 := box_cells Q1.out.j.bt
  have cB1 : ∀ i, W1.cell? ⟨W.heap.size + 1, i, none⟩ = (#[.slice m0a m0.length m0c, .slice m1a m1.length m1c, .int .i64 op, .string nm, .int .i64 pop, .int .i64 pn, .string pnm, .string pfd, .slice pla pl.length plc, .slice exa ex.length exc, .bool dn, .bool mo, .slice bda bd.length bdc, .slice ela el.length elc, .slice ena en.length enc, .slice e2a e2.length e2c] : Array Value)[i]? := box_cells Q1.out.j.bx
  have fB1 := frozen_box Q1.out.j.bx
  have ON1 := Lib.hid (show ∀ v ∈ ([.slice p1 m0.length o1, .slice p1b m1.length o1b] : List Value), v.oneCell' = true from AllAt.one M1.out)
  go_wp2_with (first | ((with_reducible refine wp_storeOff (o := ⟨none, .store 59 (.tmp 9) (.tmp 8), _, _, _, _⟩) rfl (.tmp 9) (.tmp 8) 59 rfl 2 Tryz.sizeOf59 (W.heap.size + 1) 0 [.slice m0a m0.length m0c, .slice m1a m1.length m1c, .int .i64 op, .string nm, .int .i64 pop, .int .i64 pn, .string pnm, .string pfd, .slice pla pl.length plc, .slice exa ex.length exc, .bool dn, .bool mo, .slice bda bd.length bdc, .slice ela el.length elc, .slice ena en.length enc, .slice e2a e2.length e2c] (by decide) 84 Q1.out.j.bx ?_ [.slice p1 m0.length o1, .slice p1b m1.length o1b] ?_ rfl ON1.out ?_); rfl; rfl))
  have R1 := Lib.hid (show BxD C w0.heap.size (n + ((parts nm).length + (((parts pnm).length + ((parts pfd).length + (pl.flatMap (nE N)).length)) + ((ex.flatMap (nE (N + 1))).length + ((bd.flatMap (nS N)).length + ((el.flatMap (nS N)).length + 0)))))) W st 84 [.slice p1 m0.length o1, .slice p1b m1.length o1b, .int .i64 op, .string nm, .int .i64 pop, .int .i64 pn, .string pnm, .string pfd, .slice pla pl.length plc, .slice exa ex.length exc, .bool dn, .bool mo, .slice bda bd.length bdc, .slice ela el.length elc, .slice ena en.length enc, .slice e2a e2.length e2c] [.row m0, .row m1, .int op, .str nm, .int pop, .int pn, .str pnm, .str pfd, .row pl, .row ex, .bool dn, .bool mo, .row bd, .row el, .row en, .row e2] (W1.setCells (W.heap.size + 1) 0 [.slice p1 m0.length o1, .slice p1b m1.length o1b]) from BxD.sets HLW.out 0 Q1.out M1.out)
  refine (name_any C HG.out (n + (((parts pnm).length + ((parts pfd).length + (pl.flatMap (nE N)).length)) + ((ex.flatMap (nE (N + 1))).length + ((bd.flatMap (nS N)).length + ((el.flatMap (nS N)).length + 0))))) st nm _ (C.atLeast R1.out.j.i (by omega)) (by unfold lim; omega)).mono ?_
  rintro e W2 ⟨rfl, i2, k2⟩
  have Q2 := Lib.hid (R1.out.called k2 i2)
  have M2 := Lib.hid (nm_le C HOUT.out st nm (by omega))
  clear i2 k2 cA1 cB1 fB1
  generalize hq1 : C.nm st nm = q1 at *
  have HQ1 := Lib.hid hq1
  clear hq1
  have cA2 := box_cells Q2.out.j.bt
  have cB2 : ∀ i, W2.cell? ⟨W.heap.size + 1, i, none⟩ = (#[.slice p1 m0.length o1, .slice p1b m1.length o1b, .int .i64 op, .string nm, .int .i64 pop, .int .i64 pn, .string pnm, .string pfd, .slice pla pl.length plc, .slice exa ex.length exc, .bool dn, .bool mo, .slice bda bd.length bdc, .slice ela el.length elc, .slice ena en.length enc, .slice e2a e2.length e2c] : Array Value)[i]? := box_cells Q2.out.j.bx
  have fB2 := frozen_box Q2.out.j.bx
  go_wp2_with fail
  have R2 := Lib.hid (show BxD C w0.heap.size (n + (((parts pnm).length + ((parts pfd).length + (pl.flatMap (nE N)).length)) + ((ex.flatMap (nE (N + 1))).length + ((bd.flatMap (nS N)).length + ((el.flatMap (nS N)).length + 0))))) W q1.2 84 [.slice p1 m0.length o1, .slice p1b m1.length o1b, .int .i64 op, .string q1.1, .int .i64 pop, .int .i64 pn, .string pnm, .string pfd, .slice pla pl.length plc, .slice exa ex.length exc, .bool dn, .bool mo, .slice bda bd.length bdc, .slice ela el.length elc, .slice ena en.length enc, .slice e2a e2.length e2c] [.row m0, .row m1, .int op, .str q1.1, .int pop, .int pn, .str pnm, .str pfd, .row pl, .row ex, .bool dn, .bool mo, .row bd, .row el, .row en, .row e2] (W2.setCell ⟨W.heap.size + 1, 3, none⟩ (.string q1.1)) from Q2.out.set HLW.out 3 (.string q1.1) (.str q1.1) (.str _ M2.out))
  refine (F_p.out _ V_p.out (n + ((ex.flatMap (nE (N + 1))).length + ((bd.flatMap (nS N)).length + ((el.flatMap (nS N)).length + 0)))) _ q1.2 _ (by simp only [nE, List.length_append]; omega) R2.out.j.i (HGR.out _ R2.out.j.kept)).mono ?_
  rintro e W3 ⟨us3, rfl, d3, i3, k3⟩
  have Q3 := Lib.hid (R2.out.called k3 i3)
  obtain ⟨p3, o3, us2, hus⟩ := open5 (show AllAt (NewN C w0.heap.size (W.heap.size + 3) W3) us3 [.int pop, .int pn, .str (C.nm q1.2 pnm).1, .str (C.nm (C.nm q1.2 pnm).2 pfd).1, .row (turnL (tE C N) (C.nm (C.nm q1.2 pnm).2 pfd).2 pl).1] from AllAt.sub d3 (newN_less R2.out.j.sz))
  subst us2
  have M3 := Lib.hid hus
  have Q3 := Lib.hid (show BxD C w0.heap.size (n + ((ex.flatMap (nE (N + 1))).length + ((bd.flatMap (nS N)).length + ((el.flatMap (nS N)).length + 0)))) W (turnL (tE C N) (C.nm (C.nm q1.2 pnm).2 pfd).2 pl).2 84 [.slice p1 m0.length o1, .slice p1b m1.length o1b, .int .i64 op, .string q1.1, .int .i64 pop, .int .i64 pn, .string pnm, .string pfd, .slice pla pl.length plc, .slice exa ex.length exc, .bool dn, .bool mo, .slice bda bd.length bdc, .slice ela el.length elc, .slice ena en.length enc, .slice e2a e2.length e2c] [.row m0, .row m1, .int op, .str q1.1, .int pop, .int pn, .str pnm, .str pfd, .row pl, .row ex, .bool dn, .bool mo, .row bd, .row el, .row en, .row e2] W3 from Q3.out)
  clear i3 k3 d3 hus cA2 cB2 fB2
  generalize hq2 : C.nm q1.2 pnm = q2 at *
  have HQ2 := Lib.hid hq2
  clear hq2
  generalize hq3 : C.nm q2.2 pfd = q3 at *
  have HQ3 := Lib.hid hq3
  clear hq3
  generalize hq4 : turnL (tE C N) q3.2 pl = q4 at *
  have HQ4 := Lib.hid hq4
  clear hq4
  have cA3 := box_cells Q3.out.j.bt
  have cB3 : ∀ i, W3.cell? ⟨W.heap.size + 1, i, none⟩ = (#[.slice p1 m0.length o1, .slice p1b m1.length o1b, .int .i64 op, .string q1.1, .int .i64 pop, .int .i64 pn, .string pnm, .string pfd, .slice pla pl.length plc, .slice exa ex.length exc, .bool dn, .bool mo, .slice bda bd.length bdc, .slice ela el.length elc, .slice ena en.length enc, .slice e2a e2.length e2c] : Array Value)[i]? := box_cells Q3.out.j.bx
  have fB3 := frozen_box Q3.out.j.bx
  have ON3 := Lib.hid (show ∀ v ∈ ([.int .i64 pop, .int .i64 pn, .string q2.1, .string q3.1, .slice p3 q4.1.length o3] : List Value), v.oneCell' = true from AllAt.one M3.out)
  go_wp2_with (first | ((with_reducible refine wp_storeOff (o := ⟨none, .store 24 (.tmp 19) (.tmp 18), _, _, _, _⟩) rfl (.tmp 19) (.tmp 18) 24 rfl 5 Tryz.sizeOf24 (W.heap.size + 1) 4 [.slice p1 m0.length o1, .slice p1b m1.length o1b, .int .i64 op, .string q1.1, .int .i64 pop, .int .i64 pn, .string pnm, .string pfd, .slice pla pl.length plc, .slice exa ex.length exc, .bool dn, .bool mo, .slice bda bd.length bdc, .slice ela el.length elc, .slice ena en.length enc, .slice e2a e2.length e2c] (by decide) 84 Q3.out.j.bx ?_ [.int .i64 pop, .int .i64 pn, .string q2.1, .string q3.1, .slice p3 q4.1.length o3] ?_ rfl ON3.out ?_); rfl; rfl))
  have R3 := Lib.hid (show BxD C w0.heap.size (n + ((ex.flatMap (nE (N + 1))).length + ((bd.flatMap (nS N)).length + ((el.flatMap (nS N)).length + 0)))) W q4.2 84 [.slice p1 m0.length o1, .slice p1b m1.length o1b, .int .i64 op, .string q1.1, .int .i64 pop, .int .i64 pn, .string q2.1, .string q3.1, .slice p3 q4.1.length o3, .slice exa ex.length exc, .bool dn, .bool mo, .slice bda bd.length bdc, .slice ela el.length elc, .slice ena en.length enc, .slice e2a e2.length e2c] [.row m0, .row m1, .int op, .str q1.1, .int pop, .int pn, .str q2.1, .str q3.1, .row q4.1, .row ex, .bool dn, .bool mo, .row bd, .row el, .row en, .row e2] (W3.setCells (W.heap.size + 1) 4 [.int .i64 pop, .int .i64 pn, .string q2.1, .string q3.1, .slice p3 q4.1.length o3]) from BxD.sets HLW.out 4 Q3.out M3.out)
  refine (turnE_any C w0 HLOW.out (tE C (N + 1)) (nE (N + 1)) exa ex.length exc ex A_ex.out T_ex.out l_ex F_ex.out (fun y hy s => tE_len C (N + 1) s (T_ex.out y hy)) (n + ((bd.flatMap (nS N)).length + ((el.flatMap (nS N)).length + 0))) _ q4.2 (by omega) _ R3.out.j.i (HGR.out _ R3.out.j.kept)).mono ?_
  rintro e W4 ⟨p4, o4, rfl, d4, i4, k4⟩
  have Q4 := Lib.hid (R3.out.called k4 i4)
  have M4 := Lib.hid (d4.sub (newN_less R3.out.j.sz))
  clear i4 k4 d4 cA3 cB3 fB3
  generalize hq5 : turnL (tE C (N + 1)) q4.2 ex = q5 at *
  have HQ5 := Lib.hid hq5
  clear hq5
  have cA4 := box_cells Q4.out.j.bt
  have cB4 : ∀ i, W4.cell? ⟨W.heap.size + 1, i, none⟩ = (#[.slice p1 m0.length o1, .slice p1b m1.length o1b, .int .i64 op, .string q1.1, .int .i64 pop, .int .i64 pn, .string q2.1, .string q3.1, .slice p3 q4.1.length o3, .slice exa ex.length exc, .bool dn, .bool mo, .slice bda bd.length bdc, .slice ela el.length elc, .slice ena en.length enc, .slice e2a e2.length e2c] : Array Value)[i]? := box_cells Q4.out.j.bx
  have fB4 := frozen_box Q4.out.j.bx
  go_wp2_with fail
  have R4 := Lib.hid (show BxD C w0.heap.size (n + ((bd.flatMap (nS N)).length + ((el.flatMap (nS N)).length + 0))) W q5.2 84 [.slice p1 m0.length o1, .slice p1b m1.length o1b, .int .i64 op, .string q1.1, .int .i64 pop, .int .i64 pn, .string q2.1, .string q3.1, .slice p3 q4.1.length o3, .slice p4 q5.1.length o4, .bool dn, .bool mo, .slice bda bd.length bdc, .slice ela el.length elc, .slice ena en.length enc, .slice e2a e2.length e2c] [.row m0, .row m1, .int op, .str q1.1, .int pop, .int pn, .str q2.1, .str q3.1, .row q4.1, .row q5.1, .bool dn, .bool mo, .row bd, .row el, .row en, .row e2] (W4.setCell ⟨W.heap.size + 1, 9, none⟩ (.slice p4 q5.1.length o4)) from Q4.out.set HLW.out 9 (.slice p4 q5.1.length o4) (.row q5.1) M4.out)
  refine (turnS_any C w0 HLOW.out (tS C N) (nS N) bda bd.length bdc bd A_bd.out T_bd.out l_bd F_bd.out (fun y hy s => tS_len C N s (T_bd.out y hy)) (n + ((el.flatMap (nS N)).length + 0)) _ q5.2 (by omega) _ R4.out.j.i (HGR.out _ R4.out.j.kept)).mono ?_
  rintro e W5 ⟨p5, o5, rfl, d5, i5, k5⟩
  have Q5 := Lib.hid (R4.out.called k5 i5)
  have M5 := Lib.hid (d5.sub (newN_less R4.out.j.sz))
  clear i5 k5 d5 cA4 cB4 fB4
  generalize hq6 : turnL (tS C N) q5.2 bd = q6 at *
  have HQ6 := Lib.hid hq6
  clear hq6
  have cA5 := box_cells Q5.out.j.bt
  have cB5 : ∀ i, W5.cell? ⟨W.heap.size + 1, i, none⟩ = (#[.slice p1 m0.length o1, .slice p1b m1.length o1b, .int .i64 op, .string q1.1, .int .i64 pop, .int .i64 pn, .string q2.1, .string q3.1, .slice p3 q4.1.length o3, .slice p4 q5.1.length o4, .bool dn, .bool mo, .slice bda bd.length bdc, .slice ela el.length elc, .slice ena en.length enc, .slice e2a e2.length e2c] : Array Value)[i]? := box_cells Q5.out.j.bx
  have fB5 := frozen_box Q5.out.j.bx
  go_wp2_with fail
  have R5 := Lib.hid (show BxD C w0.heap.size (n + ((el.flatMap (nS N)).length + 0)) W q6.2 84 [.slice p1 m0.length o1, .slice p1b m1.length o1b, .int .i64 op, .string q1.1, .int .i64 pop, .int .i64 pn, .string q2.1, .string q3.1, .slice p3 q4.1.length o3, .slice p4 q5.1.length o4, .bool dn, .bool mo, .slice p5 q6.1.length o5, .slice ela el.length elc, .slice ena en.length enc, .slice e2a e2.length e2c] [.row m0, .row m1, .int op, .str q1.1, .int pop, .int pn, .str q2.1, .str q3.1, .row q4.1, .row q5.1, .bool dn, .bool mo, .row q6.1, .row el, .row en, .row e2] (W5.setCell ⟨W.heap.size + 1, 12, none⟩ (.slice p5 q6.1.length o5)) from Q5.out.set HLW.out 12 (.slice p5 q6.1.length o5) (.row q6.1) M5.out)
  refine (turnS_any C w0 HLOW.out (tS C N) (nS N) ela el.length elc el A_el.out T_el.out l_el F_el.out (fun y hy s => tS_len C N s (T_el.out y hy)) (n + 0) _ q6.2 (by omega) _ R5.out.j.i (HGR.out _ R5.out.j.kept)).mono ?_
  rintro e W6 ⟨p6, o6, rfl, d6, i6, k6⟩
  have Q6 := Lib.hid (R5.out.called k6 i6)
  have M6 := Lib.hid (d6.sub (newN_less R5.out.j.sz))
  clear i6 k6 d6 cA5 cB5 fB5
  generalize hq7 : turnL (tS C N) q6.2 el = q7 at *
  have HQ7 := Lib.hid hq7
  clear hq7
  have cA6 := box_cells Q6.out.j.bt
  have cB6 : ∀ i, W6.cell? ⟨W.heap.size + 1, i, none⟩ = (#[.slice p1 m0.length o1, .slice p1b m1.length o1b, .int .i64 op, .string q1.1, .int .i64 pop, .int .i64 pn, .string q2.1, .string q3.1, .slice p3 q4.1.length o3, .slice p4 q5.1.length o4, .bool dn, .bool mo, .slice p5 q6.1.length o5, .slice ela el.length elc, .slice ena en.length enc, .slice e2a e2.length e2c] : Array Value)[i]? := box_cells Q6.out.j.bx
  have fB6 := frozen_box Q6.out.j.bx
  go_wp2_with fail
  have R6 := Lib.hid (show BxD C w0.heap.size (n + 0) W q7.2 84 [.slice p1 m0.length o1, .slice p1b m1.length o1b, .int .i64 op, .string q1.1, .int .i64 pop, .int .i64 pn, .string q2.1, .string q3.1, .slice p3 q4.1.length o3, .slice p4 q5.1.length o4, .bool dn, .bool mo, .slice p5 q6.1.length o5, .slice p6 q7.1.length o6, .slice ena en.length enc, .slice e2a e2.length e2c] [.row m0, .row m1, .int op, .str q1.1, .int pop, .int pn, .str q2.1, .str q3.1, .row q4.1, .row q5.1, .bool dn, .bool mo, .row q6.1, .row q7.1, .row en, .row e2] (W6.setCell ⟨W.heap.size + 1, 13, none⟩ (.slice p6 q7.1.length o6)) from Q6.out.set HLW.out 13 (.slice p6 q7.1.length o6) (.row q7.1) M6.out)
  refine (tnotes_any C w0 HLOW.out ena en.length enc en A_en.out T_en.out l_en (n + 0) q7.2 _ R6.out.j.i (HGR.out _ R6.out.j.kept)).mono ?_
  rintro e W7 ⟨p7, o7, rfl, d7, i7, k7⟩
  have Q7 := Lib.hid (R6.out.called k7 i7)
  have M7 := Lib.hid (d7.sub (newN_less R6.out.j.sz))
  clear i7 k7 d7 cA6 cB6 fB6
  have cA7 := box_cells Q7.out.j.bt
  have cB7 : ∀ i, W7.cell? ⟨W.heap.size + 1, i, none⟩ = (#[.slice p1 m0.length o1, .slice p1b m1.length o1b, .int .i64 op, .string q1.1, .int .i64 pop, .int .i64 pn, .string q2.1, .string q3.1, .slice p3 q4.1.length o3, .slice p4 q5.1.length o4, .bool dn, .bool mo, .slice p5 q6.1.length o5, .slice p6 q7.1.length o6, .slice ena en.length enc, .slice e2a e2.length e2c] : Array Value)[i]? := box_cells Q7.out.j.bx
  have fB7 := frozen_box Q7.out.j.bx
  go_wp2_with fail
  have R7 := Lib.hid (show BxD C w0.heap.size (n + 0) W q7.2 84 [.slice p1 m0.length o1, .slice p1b m1.length o1b, .int .i64 op, .string q1.1, .int .i64 pop, .int .i64 pn, .string q2.1, .string q3.1, .slice p3 q4.1.length o3, .slice p4 q5.1.length o4, .bool dn, .bool mo, .slice p5 q6.1.length o5, .slice p6 q7.1.length o6, .slice p7 en.length o7, .slice e2a e2.length e2c] [.row m0, .row m1, .int op, .str q1.1, .int pop, .int pn, .str q2.1, .str q3.1, .row q4.1, .row q5.1, .bool dn, .bool mo, .row q6.1, .row q7.1, .row en, .row e2] (W7.setCell ⟨W.heap.size + 1, 14, none⟩ (.slice p7 en.length o7)) from Q7.out.set HLW.out 14 (.slice p7 en.length o7) (.row en) M7.out)
  refine (tnotes_any C w0 HLOW.out e2a e2.length e2c e2 A_e2.out T_e2.out l_e2 (n + 0) q7.2 _ R7.out.j.i (HGR.out _ R7.out.j.kept)).mono ?_
  rintro e W8 ⟨p8, o8, rfl, d8, i8, k8⟩
  have Q8 := Lib.hid (R7.out.called k8 i8)
  have M8 := Lib.hid (d8.sub (newN_less R7.out.j.sz))
  clear i8 k8 d8 cA7 cB7 fB7
  have cA8 := box_cells Q8.out.j.bt
  have cB8 : ∀ i, W8.cell? ⟨W.heap.size + 1, i, none⟩ = (#[.slice p1 m0.length o1, .slice p1b m1.length o1b, .int .i64 op, .string q1.1, .int .i64 pop, .int .i64 pn, .string q2.1, .string q3.1, .slice p3 q4.1.length o3, .slice p4 q5.1.length o4, .bool dn, .bool mo, .slice p5 q6.1.length o5, .slice p6 q7.1.length o6, .slice p7 en.length o7, .slice e2a e2.length e2c] : Array Value)[i]? := box_cells Q8.out.j.bx
  have fB8 := frozen_box Q8.out.j.bx
  have R8 := Lib.hid (show BxD C w0.heap.size (n + 0) W q7.2 84 [.slice p1 m0.length o1, .slice p1b m1.length o1b, .int .i64 op, .string q1.1, .int .i64 pop, .int .i64 pn, .string q2.1, .string q3.1, .slice p3 q4.1.length o3, .slice p4 q5.1.length o4, .bool dn, .bool mo, .slice p5 q6.1.length o5, .slice p6 q7.1.length o6, .slice p7 en.length o7, .slice p8 e2.length o8] [.row m0, .row m1, .int op, .str q1.1, .int pop, .int pn, .str q2.1, .str q3.1, .row q4.1, .row q5.1, .bool dn, .bool mo, .row q6.1, .row q7.1, .row en, .row e2] (W8.setCell ⟨W.heap.size + 1, 15, none⟩ (.slice p8 e2.length o8)) from Q8.out.set HLW.out 15 (.slice p8 e2.length o8) (.row e2) M8.out)
  have CL := Lib.hid (show ∀ (i : Nat) (v : Value), ([.slice p1 m0.length o1, .slice p1b m1.length o1b, .int .i64 op, .string q1.1, .int .i64 pop, .int .i64 pn, .string q2.1, .string q3.1, .slice p3 q4.1.length o3, .slice p4 q5.1.length o4, .bool dn, .bool mo, .slice p5 q6.1.length o5, .slice p6 q7.1.length o6, .slice p7 en.length o7, .slice p8 e2.length o8] : List Value)[i]? = some v → (W8.setCell ⟨W.heap.size + 1, 15, none⟩ (.slice p8 e2.length o8)).cell? ⟨W.heap.size + 1, 0 + i, none⟩ = some v from fun i v hv => by rw [box_cells R8.out.j.bx, Nat.zero_add]; simpa using hv)
  obtain ⟨zs, z1, z2⟩ := R8.out.j.br
  have Z1 := Lib.hid (show zs.length = 16 from z1)
  have LN := Lib.hid (show ([.slice p1 m0.length o1, .slice p1b m1.length o1b, .int .i64 op, .string q1.1, .int .i64 pop, .int .i64 pn, .string q2.1, .string q3.1, .slice p3 q4.1.length o3, .slice p4 q5.1.length o4, .bool dn, .bool mo, .slice p5 q6.1.length o5, .slice p6 q7.1.length o6, .slice p7 en.length o7, .slice p8 e2.length o8] : List Value).length = 16 from rfl)
  have ON := Lib.hid (show ∀ v ∈ ([.slice p1 m0.length o1, .slice p1b m1.length o1b, .int .i64 op, .string q1.1, .int .i64 pop, .int .i64 pn, .string q2.1, .string q3.1, .slice p3 q4.1.length o3, .slice p4 q5.1.length o4, .bool dn, .bool mo, .slice p5 q6.1.length o5, .slice p6 q7.1.length o6, .slice p7 en.length o7, .slice p8 e2.length o8] : List Value), v.oneCell' = true from AllAt.one R8.out.d)
  have Z2 := Lib.hid z2
  clear z1 z2
  go_wp2_with (first
    | ((with_reducible refine wp_loadAgg (o := ⟨some 48, _, _, _, _, _⟩) rfl (.tmp 3) 84 rfl 16 Tryz.isAgg84 Tryz.sizeOf84 (W.heap.size + 1) 0 ?_ [.slice p1 m0.length o1, .slice p1b m1.length o1b, .int .i64 op, .string q1.1, .int .i64 pop, .int .i64 pn, .string q2.1, .string q3.1, .slice p3 q4.1.length o3, .slice p4 q5.1.length o4, .bool dn, .bool mo, .slice p5 q6.1.length o5, .slice p6 q7.1.length o6, .slice p7 en.length o7, .slice p8 e2.length o8] LN.out CL.out ?_); rfl)
    | ((with_reducible refine wp_storeOld (o := ⟨none, .store 84 (.tmp 4) (.tmp 48), _, _, _, _⟩) rfl (.tmp 4) (.tmp 48) 84 rfl 16 Tryz.sizeOf84 (W.heap.size + 2) zs Z1.out 84 Z2.out ?_ [.slice p1 m0.length o1, .slice p1b m1.length o1b, .int .i64 op, .string q1.1, .int .i64 pop, .int .i64 pn, .string q2.1, .string q3.1, .slice p3 q4.1.length o3, .slice p4 q5.1.length o4, .bool dn, .bool mo, .slice p5 q6.1.length o5, .slice p6 q7.1.length o6, .slice p7 en.length o7, .slice p8 e2.length o8] ?_ LN.out ON.out ?_); rfl; rfl))
  refine bodyPost_ret (v := .agg ⟨[.slice p1 m0.length o1, .slice p1b m1.length o1b, .int .i64 op, .string q1.1, .int .i64 pop, .int .i64 pn, .string q2.1, .string q3.1, .slice p3 q4.1.length o3, .slice p4 q5.1.length o4, .bool dn, .bool mo, .slice p5 q6.1.length o5, .slice p6 q7.1.length o6, .slice p7 en.length o7, .slice p8 e2.length o8]⟩) ?_ rfl ?_
  · exact results_cell (i := 4) (b := W.heap.size + 2) Tryz.results95 Tryz.isAgg84 Tryz.sizeOf84 rfl rfl R8.out.j.last.1
  · have HO : tS C (N + 1) st [.row m0, .row m1, .int op, .str nm, .int pop, .int pn, .str pnm, .str pfd, .row pl, .row ex, .bool dn, .bool mo, .row bd, .row el, .row en, .row e2] = ([.row m0, .row m1, .int op, .str q1.1, .int pop, .int pn, .str q2.1, .str q3.1, .row q4.1, .row q5.1, .bool dn, .bool mo, .row q6.1, .row q7.1, .row en, .row e2], q7.2) := by
      show (([.row m0, .row m1, .int op, .str (C.nm st nm).1, .int pop, .int pn, .str (C.nm (C.nm st nm).2 pnm).1, .str (C.nm (C.nm (C.nm st nm).2 pnm).2 pfd).1, .row (turnL (tE C N) (C.nm (C.nm (C.nm st nm).2 pnm).2 pfd).2 pl).1, .row (turnL (tE C (N + 1)) (turnL (tE C N) (C.nm (C.nm (C.nm st nm).2 pnm).2 pfd).2 pl).2 ex).1, .bool dn, .bool mo, .row (turnL (tS C N) (turnL (tE C (N + 1)) (turnL (tE C N) (C.nm (C.nm (C.nm st nm).2 pnm).2 pfd).2 pl).2 ex).2 bd).1, .row (turnL (tS C N) (turnL (tS C N) (turnL (tE C (N + 1)) (turnL (tE C N) (C.nm (C.nm (C.nm st nm).2 pnm).2 pfd).2 pl).2 ex).2 bd).2 el).1, .row en, .row e2] : List D), (turnL (tS C N) (turnL (tS C N) (turnL (tE C (N + 1)) (turnL (tE C N) (C.nm (C.nm (C.nm st nm).2 pnm).2 pfd).2 pl).2 ex).2 bd).2 el).2) = _
      rw [HQ1.out, HQ2.out, HQ3.out, HQ4.out, HQ5.out, HQ6.out, HQ7.out]
    rw [HO]
    exact ⟨[.slice p1 m0.length o1, .slice p1b m1.length o1b, .int .i64 op, .string q1.1, .int .i64 pop, .int .i64 pn, .string q2.1, .string q3.1, .slice p3 q4.1.length o3, .slice p4 q5.1.length o4, .bool dn, .bool mo, .slice p5 q6.1.length o5, .slice p6 q7.1.length o6, .slice p7 en.length o7, .slice p8 e2.length o8], rfl, R8.out.last HLW.out, R8.out.j.last.2.1, R8.out.j.last.2.2⟩
end Go.Proofs.YtciijpahjjoppaaGreat
end
section
namespace Go.Proofs.YtciijpahjjoppaaGreat
open Go.RowKit Go.Shelf Go.Deep
set_option maxRecDepth 100000 in
set_option maxHeartbeats 16000000 in
theorem tmR_any {σ : Type} {g : Nat} {c1 c2 : Value} (C : Clo σ g c1 c2) (hg : g = 50 ∨ g = 59) (hout : ∀ s x, x.size ≤ lim → (C.out s x).size ≤ lim) (w0 : World) (hlow : w0.heap.size ≤ C.low) (N : Nat) (x : List D) (hx : ShR x) (hb : mRow x ≤ 8000000) (hP : ∀ y, ShP y → mRow y ≤ mRow x → TFn C w0 129 (tP C) nP y) (hV : ∀ y, ShV y → mRow y ≤ mRow x → TFn C w0 91 (tV C) nV y) (hR : ∀ l, D.row l ∈ x → (∀ y ∈ l, ShR y) → ∀ y ∈ l, TFn C w0 93 (tR C N) (nR N) y) (hS : ∀ y, ShS y → mRow y ≤ mRow x → TFn C w0 95 (tS C (N + 1)) (nS (N + 1)) y) : TFn C w0 93 (tR C (N + 1)) (nR (N + 1)) x := by
  intro vs hv n m st W hm hI hW
  obtain ⟨m0, m1, nm, rs, ps, vr, inn, bd, en, m0a, m0c, m1a, m1c, psa, psc, vra, vrc, inna, innc, bda, bdc, ena, enc, rfl, rfl, a_m0, a_m1, i_nm, _, a_ps, a_vr, a_inn, a_bd, a_en, t_m0, t_m1, t_ps, t_vr, t_inn, t_bd, t_en⟩ := hv.openR hx
  have F_ps := Lib.hid (fun y (hy : y ∈ ps) => hP y (t_ps y hy) (by have := mRows_mem hy; simp only [mRow, mD]; omega))
  have F_vr := Lib.hid (fun y (hy : y ∈ vr) => hV y (t_vr y hy) (by have := mRows_mem hy; simp only [mRow, mD]; omega))
  have F_inn := Lib.hid (hR inn (by simp) t_inn)
  have F_bd := Lib.hid (fun y (hy : y ∈ bd) => hS y (t_bd y hy) (by have := mRows_mem hy; simp only [mRow, mD]; omega))
  simp only [mRow, mD] at hb
  have l_m0 : m0.length ≤ 8000000 := by have := mRows_len m0 (fun y hy e => by rw [e] at hy; cases t_m0 _ hy); omega
  have l_m1 : m1.length ≤ 8000000 := by have := mRows_len m1 (fun y hy e => by rw [e] at hy; cases t_m1 _ hy); omega
  have l_ps : ps.length ≤ 8000000 := by have := mRows_len ps (fun y hy e => by rw [e] at hy; cases t_ps _ hy); omega
  have l_vr : vr.length ≤ 8000000 := by have := mRows_len vr (fun y hy e => by rw [e] at hy; cases t_vr _ hy); omega
  have l_inn : inn.length ≤ 8000000 := by have := mRows_len inn (fun y hy e => by rw [e] at hy; cases t_inn _ hy); omega
  have l_bd : bd.length ≤ 8000000 := by have := mRows_len bd (fun y hy e => by rw [e] at hy; cases t_bd _ hy); omega
  have l_en : en.length ≤ 8000000 := by have := mRows_len en (fun y hy e => by rw [e] at hy; cases t_en _ hy); omega
  have hm2 : n + ((parts nm).length + ((ps.flatMap nP).length + ((vr.flatMap nV).length + ((inn.flatMap (nR N)).length + ((bd.flatMap (nS (N + 1))).length + 0))))) ≤ m := by simp only [nR, List.length_append] at hm; omega
  have J0 := Lib.hid (BxD.start C hlow (T := 80) (cs := #[.slice m0a m0.length m0c, .slice m1a m1.length m1c, .string nm, .int .i64 rs, .slice psa ps.length psc, .slice vra vr.length vrc, .slice inna inn.length innc, .slice bda bd.length bdc, .slice ena en.length enc]) (ds := [.row m0, .row m1, .str nm, .int rs, .row ps, .row vr, .row inn, .row bd, .row en]) (zs := #[.slice none 0 0, .slice none 0 0, .string ⟨#[]⟩, .int .i64 0, .slice none 0 0, .slice none 0 0, .slice none 0 0, .slice none 0 0, .slice none 0 0]) rfl (C.atLeast hI hm2) hW hv)
  have HG := Lib.hid hg
  have HLW := Lib.hid hW.size
  have HLOW := Lib.hid hlow
  have HOUT := Lib.hid hout
  have HGR := Lib.hid (fun (V : World) (k : Kept C.O C.hi W V) => k.ground hI hlow hW)
  have A_m0 := Lib.hid a_m0
  have T_m0 := Lib.hid t_m0
  have A_m1 := Lib.hid a_m1
  have T_m1 := Lib.hid t_m1
  have A_ps := Lib.hid a_ps
  have T_ps := Lib.hid t_ps
  have A_vr := Lib.hid a_vr
  have T_vr := Lib.hid t_vr
  have A_inn := Lib.hid a_inn
  have T_inn := Lib.hid t_inn
  have A_bd := Lib.hid a_bd
  have T_bd := Lib.hid t_bd
  have A_en := Lib.hid a_en
  have T_en := Lib.hid t_en
  clear hI hg hW hlow hout hm hm2 hv hx a_m0 a_m1 a_ps a_vr a_inn a_bd a_en t_m0 t_m1 t_ps t_vr t_inn t_bd t_en hP hV hR hS
  go_enter Tryz.func93, Tryz.ntmps93
  go_wp2_with fail
  refine (tmarks_any C w0 HLOW.out m0 m1 m0a m0c m1a m1c A_m0.out A_m1.out T_m0.out T_m1.out l_m0 l_m1 (n + ((parts nm).length + ((ps.flatMap nP).length + ((vr.flatMap nV).length + ((inn.flatMap (nR N)).length + ((bd.flatMap (nS (N + 1))).length + 0)))))) st _ J0.out.j.i (HGR.out _ J0.out.j.kept)).mono ?_
  rintro e W1 ⟨p1, o1, p1b, o1b, rfl, d1, d1b, i1, k1⟩
  have Q1 := Lib.hid (J0.out.called k1 i1)
  have M1 := Lib.hid (show AllAt (NewN C w0.heap.size (W.heap.size + 3) W1) [.slice p1 m0.length o1, .slice p1b m1.length o1b] [.row m0, .row m1] from ⟨d1.sub (newN_less J0.out.j.sz), d1b.sub (newN_less J0.out.j.sz), trivial⟩)
  clear i1 k1 d1 d1b
  have cA1 := box_cells Q1.out.j.bt
  have cB1 : ∀ i, W1.cell? ⟨W.heap.size + 1, i, none⟩ = (#[.slice m0a m0.length m0c, .slice m1a m1.length m1c, .string nm, .int .i64 rs, .slice psa ps.length psc, .slice vra vr.length vrc, .slice inna inn.length innc, .slice bda bd.length bdc, .slice ena en.length enc] : Array Value)[i]? := box_cells Q1.out.j.bx
  have fB1 := frozen_box Q1.out.j.bx
  have ON1 := Lib.hid (show ∀ v ∈ ([.slice p1 m0.length o1, .slice p1b m1.length o1b] : List Value), v.oneCell' = true from AllAt.one M1.out)
  go_wp2_with (first | ((with_reducible refine wp_storeOff (o := ⟨none, .store 59 (.tmp 9) (.tmp 8), _, _, _, _⟩) rfl (.tmp 9) (.tmp 8) 59 rfl 2 Tryz.sizeOf59 (W.heap.size + 1) 0 [.slice m0a m0.length m0c, .slice m1a m1.length m1c, .string nm, .int .i64 rs, .slice psa ps.length psc, .slice vra vr.length vrc, .slice inna inn.length innc, .slice bda bd.length bdc, .slice ena en.length enc] (by decide) 80 Q1.out.j.bx ?_ [.slice p1 m0.length o1, .slice p1b m1.length o1b] ?_ rfl ON1.out ?_); rfl; rfl))
  have R1 := Lib.hid (show BxD C w0.heap.size (n + ((parts nm).length + ((ps.flatMap nP).length + ((vr.flatMap nV).length + ((inn.flatMap (nR N)).length + ((bd.flatMap (nS (N + 1))).length + 0)))))) W st 80 [.slice p1 m0.length o1, .slice p1b m1.length o1b, .string nm, .int .i64 rs, .slice psa ps.length psc, .slice vra vr.length vrc, .slice inna inn.length innc, .slice bda bd.length bdc, .slice ena en.length enc] [.row m0, .row m1, .str nm, .int rs, .row ps, .row vr, .row inn, .row bd, .row en] (W1.setCells (W.heap.size + 1) 0 [.slice p1 m0.length o1, .slice p1b m1.length o1b]) from BxD.sets HLW.out 0 Q1.out M1.out)
  refine (name_any C HG.out (n + ((ps.flatMap nP).length + ((vr.flatMap nV).length + ((inn.flatMap (nR N)).length + ((bd.flatMap (nS (N + 1))).length + 0))))) st nm _ (C.atLeast R1.out.j.i (by omega)) (by unfold lim; omega)).mono ?_
  rintro e W2 ⟨rfl, i2, k2⟩
  have Q2 := Lib.hid (R1.out.called k2 i2)
  have M2 := Lib.hid (nm_le C HOUT.out st nm (by omega))
  clear i2 k2 cA1 cB1 fB1
  generalize hq1 : C.nm st nm = q1 at *
  have HQ1 := Lib.hid hq1
  clear hq1
  have cA2 := box_cells Q2.out.j.bt
  have cB2 : ∀ i, W2.cell? ⟨W.heap.size + 1, i, none⟩ = (#[.slice p1 m0.length o1, .slice p1b m1.length o1b, .string nm, .int .i64 rs, .slice psa ps.length psc, .slice vra vr.length vrc, .slice inna inn.length innc, .slice bda bd.length bdc, .slice ena en.length enc] : Array Value)[i]? := box_cells Q2.out.j.bx
  have fB2 := frozen_box Q2.out.j.bx
  go_wp2_with fail
  have R2 := Lib.hid (show BxD C w0.heap.size (n + ((ps.flatMap nP).length + ((vr.flatMap nV).length + ((inn.flatMap (nR N)).length + ((bd.flatMap (nS (N + 1))).length + 0))))) W q1.2 80 [.slice p1 m0.length o1, .slice p1b m1.length o1b, .string q1.1, .int .i64 rs, .slice psa ps.length psc, .slice vra vr.length vrc, .slice inna inn.length innc, .slice bda bd.length bdc, .slice ena en.length enc] [.row m0, .row m1, .str q1.1, .int rs, .row ps, .row vr, .row inn, .row bd, .row en] (W2.setCell ⟨W.heap.size + 1, 2, none⟩ (.string q1.1)) from Q2.out.set HLW.out 2 (.string q1.1) (.str q1.1) (.str _ M2.out))
  refine (turnP_any C w0 HLOW.out (tP C) nP psa ps.length psc ps A_ps.out T_ps.out l_ps F_ps.out (fun y hy s => tP_len C s (T_ps.out y hy)) (n + ((vr.flatMap nV).length + ((inn.flatMap (nR N)).length + ((bd.flatMap (nS (N + 1))).length + 0)))) _ q1.2 (by omega) _ R2.out.j.i (HGR.out _ R2.out.j.kept)).mono ?_
  rintro e W3 ⟨p3, o3, rfl, d3, i3, k3⟩
  have Q3 := Lib.hid (R2.out.called k3 i3)
  have M3 := Lib.hid (d3.sub (newN_less R2.out.j.sz))
  clear i3 k3 d3 cA2 cB2 fB2
  generalize hq2 : turnL (tP C) q1.2 ps = q2 at *
  have HQ2 := Lib.hid hq2
  clear hq2
  have cA3 := box_cells Q3.out.j.bt
  have cB3 : ∀ i, W3.cell? ⟨W.heap.size + 1, i, none⟩ = (#[.slice p1 m0.length o1, .slice p1b m1.length o1b, .string q1.1, .int .i64 rs, .slice psa ps.length psc, .slice vra vr.length vrc, .slice inna inn.length innc, .slice bda bd.length bdc, .slice ena en.length enc] : Array Value)[i]? := box_cells Q3.out.j.bx
  have fB3 := frozen_box Q3.out.j.bx
  go_wp2_with fail
  have R3 := Lib.hid (show BxD C w0.heap.size (n + ((vr.flatMap nV).length + ((inn.flatMap (nR N)).length + ((bd.flatMap (nS (N + 1))).length + 0)))) W q2.2 80 [.slice p1 m0.length o1, .slice p1b m1.length o1b, .string q1.1, .int .i64 rs, .slice p3 q2.1.length o3, .slice vra vr.length vrc, .slice inna inn.length innc, .slice bda bd.length bdc, .slice ena en.length enc] [.row m0, .row m1, .str q1.1, .int rs, .row q2.1, .row vr, .row inn, .row bd, .row en] (W3.setCell ⟨W.heap.size + 1, 4, none⟩ (.slice p3 q2.1.length o3)) from Q3.out.set HLW.out 4 (.slice p3 q2.1.length o3) (.row q2.1) M3.out)
  refine (turnV_any C w0 HLOW.out (tV C) nV vra vr.length vrc vr A_vr.out T_vr.out l_vr F_vr.out (fun y hy s => tV_len C s (T_vr.out y hy)) (n + ((inn.flatMap (nR N)).length + ((bd.flatMap (nS (N + 1))).length + 0))) _ q2.2 (by omega) _ R3.out.j.i (HGR.out _ R3.out.j.kept)).mono ?_
  rintro e W4 ⟨p4, o4, rfl, d4, i4, k4⟩
  have Q4 := Lib.hid (R3.out.called k4 i4)
  have M4 := Lib.hid (d4.sub (newN_less R3.out.j.sz))
  clear i4 k4 d4 cA3 cB3 fB3
  generalize hq3 : turnL (tV C) q2.2 vr = q3 at *
  have HQ3 := Lib.hid hq3
  clear hq3
  have cA4 := box_cells Q4.out.j.bt
  have cB4 : ∀ i, W4.cell? ⟨W.heap.size + 1, i, none⟩ = (#[.slice p1 m0.length o1, .slice p1b m1.length o1b, .string q1.1, .int .i64 rs, .slice p3 q2.1.length o3, .slice vra vr.length vrc, .slice inna inn.length innc, .slice bda bd.length bdc, .slice ena en.length enc] : Array Value)[i]? := box_cells Q4.out.j.bx
  have fB4 := frozen_box Q4.out.j.bx
  go_wp2_with fail
  have R4 := Lib.hid (show BxD C w0.heap.size (n + ((inn.flatMap (nR N)).length + ((bd.flatMap (nS (N + 1))).length + 0))) W q3.2 80 [.slice p1 m0.length o1, .slice p1b m1.length o1b, .string q1.1, .int .i64 rs, .slice p3 q2.1.length o3, .slice p4 q3.1.length o4, .slice inna inn.length innc, .slice bda bd.length bdc, .slice ena en.length enc] [.row m0, .row m1, .str q1.1, .int rs, .row q2.1, .row q3.1, .row inn, .row bd, .row en] (W4.setCell ⟨W.heap.size + 1, 5, none⟩ (.slice p4 q3.1.length o4)) from Q4.out.set HLW.out 5 (.slice p4 q3.1.length o4) (.row q3.1) M4.out)
  refine (turnR_any C w0 HLOW.out (tR C N) (nR N) inna inn.length innc inn A_inn.out T_inn.out l_inn F_inn.out (fun y hy s => tR_len C N s (T_inn.out y hy)) (n + ((bd.flatMap (nS (N + 1))).length + 0)) _ q3.2 (by omega) _ R4.out.j.i (HGR.out _ R4.out.j.kept)).mono ?_
  rintro e W5 ⟨p5, o5, rfl, d5, i5, k5⟩
  have Q5 := Lib.hid (R4.out.called k5 i5)
  have M5 := Lib.hid (d5.sub (newN_less R4.out.j.sz))
  clear i5 k5 d5 cA4 cB4 fB4
  generalize hq4 : turnL (tR C N) q3.2 inn = q4 at *
  have HQ4 := Lib.hid hq4
  clear hq4
  have cA5 := box_cells Q5.out.j.bt
  have cB5 : ∀ i, W5.cell? ⟨W.heap.size + 1, i, none⟩ = (#[.slice p1 m0.length o1, .slice p1b m1.length o1b, .string q1.1, .int .i64 rs, .slice p3 q2.1.length o3, .slice p4 q3.1.length o4, .slice inna inn.length innc, .slice bda bd.length bdc, .slice ena en.length enc] : Array Value)[i]? := box_cells Q5.out.j.bx
  have fB5 := frozen_box Q5.out.j.bx
  go_wp2_with fail
  have R5 := Lib.hid (show BxD C w0.heap.size (n + ((bd.flatMap (nS (N + 1))).length + 0)) W q4.2 80 [.slice p1 m0.length o1, .slice p1b m1.length o1b, .string q1.1, .int .i64 rs, .slice p3 q2.1.length o3, .slice p4 q3.1.length o4, .slice p5 q4.1.length o5, .slice bda bd.length bdc, .slice ena en.length enc] [.row m0, .row m1, .str q1.1, .int rs, .row q2.1, .row q3.1, .row q4.1, .row bd, .row en] (W5.setCell ⟨W.heap.size + 1, 6, none⟩ (.slice p5 q4.1.length o5)) from Q5.out.set HLW.out 6 (.slice p5 q4.1.length o5) (.row q4.1) M5.out)
  refine (turnS_any C w0 HLOW.out (tS C (N + 1)) (nS (N + 1)) bda bd.length bdc bd A_bd.out T_bd.out l_bd F_bd.out (fun y hy s => tS_len C (N + 1) s (T_bd.out y hy)) (n + 0) _ q4.2 (by omega) _ R5.out.j.i (HGR.out _ R5.out.j.kept)).mono ?_
  rintro e W6 ⟨p6, o6, rfl, d6, i6, k6⟩
  have Q6 := Lib.hid (R5.out.called k6 i6)
  have M6 := Lib.hid (d6.sub (newN_less R5.out.j.sz))
  clear i6 k6 d6 cA5 cB5 fB5
  generalize hq5 : turnL (tS C (N + 1)) q4.2 bd = q5 at *
  have HQ5 := Lib.hid hq5
  clear hq5
  have cA6 := box_cells Q6.out.j.bt
  have cB6 : ∀ i, W6.cell? ⟨W.heap.size + 1, i, none⟩ = (#[.slice p1 m0.length o1, .slice p1b m1.length o1b, .string q1.1, .int .i64 rs, .slice p3 q2.1.length o3, .slice p4 q3.1.length o4, .slice p5 q4.1.length o5, .slice bda bd.length bdc, .slice ena en.length enc] : Array Value)[i]? := box_cells Q6.out.j.bx
  have fB6 := frozen_box Q6.out.j.bx
  go_wp2_with fail
  have R6 := Lib.hid (show BxD C w0.heap.size (n + 0) W q5.2 80 [.slice p1 m0.length o1, .slice p1b m1.length o1b, .string q1.1, .int .i64 rs, .slice p3 q2.1.length o3, .slice p4 q3.1.length o4, .slice p5 q4.1.length o5, .slice p6 q5.1.length o6, .slice ena en.length enc] [.row m0, .row m1, .str q1.1, .int rs, .row q2.1, .row q3.1, .row q4.1, .row q5.1, .row en] (W6.setCell ⟨W.heap.size + 1, 7, none⟩ (.slice p6 q5.1.length o6)) from Q6.out.set HLW.out 7 (.slice p6 q5.1.length o6) (.row q5.1) M6.out)
  refine (tnotes_any C w0 HLOW.out ena en.length enc en A_en.out T_en.out l_en (n + 0) q5.2 _ R6.out.j.i (HGR.out _ R6.out.j.kept)).mono ?_
  rintro e W7 ⟨p7, o7, rfl, d7, i7, k7⟩
  have Q7 := Lib.hid (R6.out.called k7 i7)
  have M7 := Lib.hid (d7.sub (newN_less R6.out.j.sz))
  clear i7 k7 d7 cA6 cB6 fB6
  have cA7 := box_cells Q7.out.j.bt
  have cB7 : ∀ i, W7.cell? ⟨W.heap.size + 1, i, none⟩ = (#[.slice p1 m0.length o1, .slice p1b m1.length o1b, .string q1.1, .int .i64 rs, .slice p3 q2.1.length o3, .slice p4 q3.1.length o4, .slice p5 q4.1.length o5, .slice p6 q5.1.length o6, .slice ena en.length enc] : Array Value)[i]? := box_cells Q7.out.j.bx
  have fB7 := frozen_box Q7.out.j.bx
  have R7 := Lib.hid (show BxD C w0.heap.size (n + 0) W q5.2 80 [.slice p1 m0.length o1, .slice p1b m1.length o1b, .string q1.1, .int .i64 rs, .slice p3 q2.1.length o3, .slice p4 q3.1.length o4, .slice p5 q4.1.length o5, .slice p6 q5.1.length o6, .slice p7 en.length o7] [.row m0, .row m1, .str q1.1, .int rs, .row q2.1, .row q3.1, .row q4.1, .row q5.1, .row en] (W7.setCell ⟨W.heap.size + 1, 8, none⟩ (.slice p7 en.length o7)) from Q7.out.set HLW.out 8 (.slice p7 en.length o7) (.row en) M7.out)
  have CL := Lib.hid (show ∀ (i : Nat) (v : Value), ([.slice p1 m0.length o1, .slice p1b m1.length o1b, .string q1.1, .int .i64 rs, .slice p3 q2.1.length o3, .slice p4 q3.1.length o4, .slice p5 q4.1.length o5, .slice p6 q5.1.length o6, .slice p7 en.length o7] : List Value)[i]? = some v → (W7.setCell ⟨W.heap.size + 1, 8, none⟩ (.slice p7 en.length o7)).cell? ⟨W.heap.size + 1, 0 + i, none⟩ = some v from fun i v hv => by rw [box_cells R7.out.j.bx, Nat.zero_add]; simpa using hv)
  obtain ⟨zs, z1, z2⟩ := R7.out.j.br
  have Z1 := Lib.hid (show zs.length = 9 from z1)
  have LN := Lib.hid (show ([.slice p1 m0.length o1, .slice p1b m1.length o1b, .string q1.1, .int .i64 rs, .slice p3 q2.1.length o3, .slice p4 q3.1.length o4, .slice p5 q4.1.length o5, .slice p6 q5.1.length o6, .slice p7 en.length o7] : List Value).length = 9 from rfl)
  have ON := Lib.hid (show ∀ v ∈ ([.slice p1 m0.length o1, .slice p1b m1.length o1b, .string q1.1, .int .i64 rs, .slice p3 q2.1.length o3, .slice p4 q3.1.length o4, .slice p5 q4.1.length o5, .slice p6 q5.1.length o6, .slice p7 en.length o7] : List Value), v.oneCell' = true from AllAt.one R7.out.d)
  have Z2 := Lib.hid z2
  clear z1 z2
  go_wp2_with (first
    | ((with_reducible refine wp_loadAgg (o := ⟨some 44, _, _, _, _, _⟩) rfl (.tmp 3) 80 rfl 9 Tryz.isAgg80 Tryz.sizeOf80 (W.heap.size + 1) 0 ?_ [.slice p1 m0.length o1, .slice p1b m1.length o1b, .string q1.1, .int .i64 rs, .slice p3 q2.1.length o3, .slice p4 q3.1.length o4, .slice p5 q4.1.length o5, .slice p6 q5.1.length o6, .slice p7 en.length o7] LN.out CL.out ?_); rfl)
    | ((with_reducible refine wp_storeOld (o := ⟨none, .store 80 (.tmp 4) (.tmp 44), _, _, _, _⟩) rfl (.tmp 4) (.tmp 44) 80 rfl 9 Tryz.sizeOf80 (W.heap.size + 2) zs Z1.out 80 Z2.out ?_ [.slice p1 m0.length o1, .slice p1b m1.length o1b, .string q1.1, .int .i64 rs, .slice p3 q2.1.length o3, .slice p4 q3.1.length o4, .slice p5 q4.1.length o5, .slice p6 q5.1.length o6, .slice p7 en.length o7] ?_ LN.out ON.out ?_); rfl; rfl))
  refine bodyPost_ret (v := .agg ⟨[.slice p1 m0.length o1, .slice p1b m1.length o1b, .string q1.1, .int .i64 rs, .slice p3 q2.1.length o3, .slice p4 q3.1.length o4, .slice p5 q4.1.length o5, .slice p6 q5.1.length o6, .slice p7 en.length o7]⟩) ?_ rfl ?_
  · exact results_cell (i := 4) (b := W.heap.size + 2) Tryz.results93 Tryz.isAgg80 Tryz.sizeOf80 rfl rfl R7.out.j.last.1
  · have HO : tR C (N + 1) st [.row m0, .row m1, .str nm, .int rs, .row ps, .row vr, .row inn, .row bd, .row en] = ([.row m0, .row m1, .str q1.1, .int rs, .row q2.1, .row q3.1, .row q4.1, .row q5.1, .row en], q5.2) := by
      show (([.row m0, .row m1, .str (C.nm st nm).1, .int rs, .row (turnL (tP C) (C.nm st nm).2 ps).1, .row (turnL (tV C) (turnL (tP C) (C.nm st nm).2 ps).2 vr).1, .row (turnL (tR C N) (turnL (tV C) (turnL (tP C) (C.nm st nm).2 ps).2 vr).2 inn).1, .row (turnL (tS C (N + 1)) (turnL (tR C N) (turnL (tV C) (turnL (tP C) (C.nm st nm).2 ps).2 vr).2 inn).2 bd).1, .row en] : List D), (turnL (tS C (N + 1)) (turnL (tR C N) (turnL (tV C) (turnL (tP C) (C.nm st nm).2 ps).2 vr).2 inn).2 bd).2) = _
      rw [HQ1.out, HQ2.out, HQ3.out, HQ4.out, HQ5.out]
    rw [HO]
    exact ⟨[.slice p1 m0.length o1, .slice p1b m1.length o1b, .string q1.1, .int .i64 rs, .slice p3 q2.1.length o3, .slice p4 q3.1.length o4, .slice p5 q4.1.length o5, .slice p6 q5.1.length o6, .slice p7 en.length o7], rfl, R7.out.last HLW.out, R7.out.j.last.2.1, R7.out.j.last.2.2⟩
end Go.Proofs.YtciijpahjjoppaaGreat
end
