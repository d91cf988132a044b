/-
  Texts of this proof, put together.
-/
import Derived.Test.YtciijpahjjoppaaGreatPb7
section
namespace Go.Proofs.YtciijpahjjoppaaGreat
open Go.RowKit Go.Shelf Go.Deep
set_option maxRecDepth 100000 in
set_option maxHeartbeats 16000000 in
theorem tmS_any {σ : Type} {g : Nat} {c1 c2 : Value} (C : Clo σ g c1 c2) (hg : g = 50 ∨ g = 59) (hout : ∀ s x, x.size ≤ lim → (C.out s x).size ≤ lim) (w0 : World) (hlow : w0.heap.size ≤ C.low) (N : Nat) (x : List D) (hx : ShS x) (hb : mRow x ≤ 8000000) (hE : ∀ y, ShE y → mRow y ≤ mRow x → TFn C w0 130 (tE C (N + 1)) (nE (N + 1)) y) (hS : ∀ l, D.row l ∈ x → (∀ y ∈ l, ShS y) → ∀ y ∈ l, TFn C w0 95 (tS C N) (nS N) y) : TFn C w0 95 (tS C (N + 1)) (nS (N + 1)) x := by
  intro vs hv n m st W hm hI hW
  obtain ⟨m0, m1, op, nm, pop, pn, pnm, pfd, pl, ex, dn, mo, bd, el, en, e2, m0a, m0c, m1a, m1c, pla, plc, exa, exc, bda, bdc, ela, elc, ena, enc, e2a, e2c, rfl, rfl, a_m0, a_m1, _, i_nm, _, _, i_pnm, i_pfd, a_pl, a_ex, a_bd, a_el, a_en, a_e2, t_m0, t_m1, t_pl, t_ex, t_bd, t_el, t_en, t_e2⟩ := hv.openS hx
  have F_p := Lib.hid (hE [.int pop, .int pn, .str pnm, .str pfd, .row pl] (.mk pop pn pnm pfd pl t_pl) (by simp only [mRow, mD]; omega))
  have F_ex := Lib.hid (fun y (hy : y ∈ ex) => hE y (t_ex y hy) (by have := mRows_mem hy; simp only [mRow, mD]; omega))
  have F_bd := Lib.hid (hS bd (by simp) t_bd)
  have F_el := Lib.hid (hS el (by simp) t_el)
  simp only [mRow, mD] at hb
  have l_m0 : m0.length ≤ 8000000 := by have := mRows_len m0 (fun y hy e => by rw [e] at hy; cases t_m0 _ hy); omega
  have l_m1 : m1.length ≤ 8000000 := by have := mRows_len m1 (fun y hy e => by rw [e] at hy; cases t_m1 _ hy); omega
  have l_ex : ex.length ≤ 8000000 := by have := mRows_len ex (fun y hy e => by rw [e] at hy; cases t_ex _ hy); omega
  have l_bd : bd.length ≤ 8000000 := by have := mRows_len bd (fun y hy e => by rw [e] at hy; cases t_bd _ hy); omega
  have l_el : el.length ≤ 8000000 := by have := mRows_len el (fun y hy e => by rw [e] at hy; cases t_el _ hy); omega
  have l_en : en.length ≤ 8000000 := by have := mRows_len en (fun y hy e => by rw [e] at hy; cases t_en _ hy); omega
  have l_e2 : e2.length ≤ 8000000 := by have := mRows_len e2 (fun y hy e => by rw [e] at hy; cases t_e2 _ hy); omega
  have hm2 : n + ((parts nm).length + (((parts pnm).length + ((parts pfd).length + (pl.flatMap (nE N)).length)) + ((ex.flatMap (nE (N + 1))).length + ((bd.flatMap (nS N)).length + ((el.flatMap (nS N)).length + 0))))) ≤ m := by simp only [nS, List.length_append] at hm; omega
  have J0 := Lib.hid (BxD.start C hlow (T := 84) (cs := #[.slice m0a m0.length m0c, .slice m1a m1.length m1c, .int .i64 op, .string nm, .int .i64 pop, .int .i64 pn, .string pnm, .string pfd, .slice pla pl.length plc, .slice exa ex.length exc, .bool dn, .bool mo, .slice bda bd.length bdc, .slice ela el.length elc, .slice ena en.length enc, .slice e2a e2.length e2c]) (ds := [.row m0, .row m1, .int op, .str nm, .int pop, .int pn, .str pnm, .str pfd, .row pl, .row ex, .bool dn, .bool mo, .row bd, .row el, .row en, .row e2]) (zs := #[.slice none 0 0, .slice none 0 0, .int .i64 0, .string ⟨#[]⟩, .int .i64 0, .int .i64 0, .string ⟨#[]⟩, .string ⟨#[]⟩, .slice none 0 0, .slice none 0 0, .bool false, .bool false, .slice none 0 0, .slice none 0 0, .slice none 0 0, .slice none 0 0]) rfl (C.atLeast hI hm2) hW hv)
  have HG := Lib.hid hg
  have HLW := Lib.hid hW.size
  have HLOW := Lib.hid hlow
  have HOUT := Lib.hid hout
  have HGR := Lib.hid (fun (V : World) (k : Kept C.O C.hi W V) => k.ground hI hlow hW)
  have A_m0 := Lib.hid a_m0
  have T_m0 := Lib.hid t_m0
  have A_m1 := Lib.hid a_m1
  have T_m1 := Lib.hid t_m1
  have A_ex := Lib.hid a_ex
  have T_ex := Lib.hid t_ex
  have A_bd := Lib.hid a_bd
  have T_bd := Lib.hid t_bd
  have A_el := Lib.hid a_el
  have T_el := Lib.hid t_el
  have A_en := Lib.hid a_en
  have T_en := Lib.hid t_en
  have A_e2 := Lib.hid a_e2
  have T_e2 := Lib.hid t_e2
  have V_p := Lib.hid (show AllAt w0 [.int .i64 pop, .int .i64 pn, .string pnm, .string pfd, .slice pla pl.length plc] [.int pop, .int pn, .str pnm, .str pfd, .row pl] from (show AllAt w0 (([.slice m0a m0.length m0c, .slice m1a m1.length m1c, .int .i64 op, .string nm] : List Value) ++ ([.int .i64 pop, .int .i64 pn, .string pnm, .string pfd, .slice pla pl.length plc] ++ [.slice exa ex.length exc, .bool dn, .bool mo, .slice bda bd.length bdc, .slice ela el.length elc, .slice ena en.length enc, .slice e2a e2.length e2c])) (([.row m0, .row m1, .int op, .str nm] : List D) ++ ([.int pop, .int pn, .str pnm, .str pfd, .row pl] ++ [.row ex, .bool dn, .bool mo, .row bd, .row el, .row en, .row e2])) from hv) |> fun h => ⟨h.2.2.2.2.1, h.2.2.2.2.2.1, h.2.2.2.2.2.2.1, h.2.2.2.2.2.2.2.1, h.2.2.2.2.2.2.2.2.1, trivial⟩)
  clear hI hg hW hlow hout hm hm2 hv hx a_m0 a_m1 a_ex a_bd a_el a_en a_e2 t_m0 t_m1 t_ex t_bd t_el t_en t_e2 hE hS
  go_enter Tryz.func95, Tryz.ntmps95
  go_wp2_with fail
  refine (tmarks_any C w0 HLOW.out m0 m1 m0a m0c m1a m1c A_m0.out A_m1.out T_m0.out T_m1.out l_m0 l_m1 (n + ((parts nm).length + (((parts pnm).length + ((parts pfd).length + (pl.flatMap (nE N)).length)) + ((ex.flatMap (nE (N + 1))).length + ((bd.flatMap (nS N)).length + ((el.flatMap (nS N)).length + 0)))))) st _ J0.out.j.i (HGR.out _ J0.out.j.kept)).mono ?_
  rintro e W1 ⟨p1, o1, p1b, o1b, rfl, d1, d1b, i1, k1⟩
  have Q1 := Lib.hid (J0.out.called k1 i1)
  have M1 := Lib.hid (show AllAt (NewN C w0.heap.size (W.heap.size + 3) W1) [.slice p1 m0.length o1, .slice p1b m1.length o1b] [.row m0, .row m1] from ⟨d1.sub (newN_less J0.out.j.sz), d1b.sub (newN_less J0.out.j.sz), trivial⟩)
  clear i1 k1 d1 d1b
  have cA1 := box_cells Q1.out.j.bt
  have cB1 : ∀ i, W1.cell? ⟨W.heap.size + 1, i, none⟩ = (#[.slice m0a m0.length m0c, .slice m1a m1.length m1c, .int .i64 op, .string nm, .int .i64 pop, .int .i64 pn, .string pnm, .string pfd, .slice pla pl.length plc, .slice exa ex.length exc, .bool dn, .bool mo, .slice bda bd.length bdc, .slice ela el.length elc, .slice ena en.length enc, .slice e2a e2.length e2c] : Array Value)[i]? := box_cells Q1.out.j.bx
  have fB1 := frozen_box Q1.out.j.bx
  have ON1 := Lib.hid (show ∀ v ∈ ([.slice p1 m0.length o1, .slice p1b m1.length o1b] : List Value), v.oneCell' = true from AllAt.one M1.out)
  go_wp2_with (first | ((with_reducible refine wp_storeOff (o := ⟨none, .store 59 (.tmp 9) (.tmp 8), _, _, _, _⟩) rfl (.tmp 9) (.tmp 8) 59 rfl 2 Tryz.sizeOf59 (W.heap.size + 1) 0 [.slice m0a m0.length m0c, .slice m1a m1.length m1c, .int .i64 op, .string nm, .int .i64 pop, .int .i64 pn, .string pnm, .string pfd, .slice pla pl.length plc, .slice exa ex.length exc, .bool dn, .bool mo, .slice bda bd.length bdc, .slice ela el.length elc, .slice ena en.length enc, .slice e2a e2.length e2c] (by decide) 84 Q1.out.j.bx ?_ [.slice p1 m0.length o1, .slice p1b m1.length o1b] ?_ rfl ON1.out ?_); rfl; rfl))
  have R1 := Lib.hid (show BxD C w0.heap.size (n + ((parts nm).length + (((parts pnm).length + ((parts pfd).length + (pl.flatMap (nE N)).length)) + ((ex.flatMap (nE (N + 1))).length + ((bd.flatMap (nS N)).length + ((el.flatMap (nS N)).length + 0)))))) W st 84 [.slice p1 m0.length o1, .slice p1b m1.length o1b, .int .i64 op, .string nm, .int .i64 pop, .int .i64 pn, .string pnm, .string pfd, .slice pla pl.length plc, .slice exa ex.length exc, .bool dn, .bool mo, .slice bda bd.length bdc, .slice ela el.length elc, .slice ena en.length enc, .slice e2a e2.length e2c] [.row m0, .row m1, .int op, .str nm, .int pop, .int pn, .str pnm, .str pfd, .row pl, .row ex, .bool dn, .bool mo, .row bd, .row el, .row en, .row e2] (W1.setCells (W.heap.size + 1) 0 [.slice p1 m0.length o1, .slice p1b m1.length o1b]) from BxD.sets HLW.out 0 Q1.out M1.out)
  refine (name_any C HG.out (n + (((parts pnm).length + ((parts pfd).length + (pl.flatMap (nE N)).length)) + ((ex.flatMap (nE (N + 1))).length + ((bd.flatMap (nS N)).length + ((el.flatMap (nS N)).length + 0))))) st nm _ (C.atLeast R1.out.j.i (by omega)) (by unfold lim; omega)).mono ?_
  rintro e W2 ⟨rfl, i2, k2⟩
  have Q2 := Lib.hid (R1.out.called k2 i2)
  have M2 := Lib.hid (nm_le C HOUT.out st nm (by omega))
  clear i2 k2 cA1 cB1 fB1
  generalize hq1 : C.nm st nm = q1 at *
  have HQ1 := Lib.hid hq1
  clear hq1
  have cA2 := box_cells Q2.out.j.bt
  have cB2 : ∀ i, W2.cell? ⟨W.heap.size + 1, i, none⟩ = (#[.slice p1 m0.length o1, .slice p1b m1.length o1b, .int .i64 op, .string nm, .int .i64 pop, .int .i64 pn, .string pnm, .string pfd, .slice pla pl.length plc, .slice exa ex.length exc, .bool dn, .bool mo, .slice bda bd.length bdc, .slice ela el.length elc, .slice ena en.length enc, .slice e2a e2.length e2c] : Array Value)[i]? := box_cells Q2.out.j.bx
  have fB2 := frozen_box Q2.out.j.bx
  go_wp2_with fail
  have R2 := Lib.hid (show BxD C w0.heap.size (n + (((parts pnm).length + ((parts pfd).length + (pl.flatMap (nE N)).length)) + ((ex.flatMap (nE (N + 1))).length + ((bd.flatMap (nS N)).length + ((el.flatMap (nS N)).length + 0))))) W q1.2 84 [.slice p1 m0.length o1, .slice p1b m1.length o1b, .int .i64 op, .string q1.1, .int .i64 pop, .int .i64 pn, .string pnm, .string pfd, .slice pla pl.length plc, .slice exa ex.length exc, .bool dn, .bool mo, .slice bda bd.length bdc, .slice ela el.length elc, .slice ena en.length enc, .slice e2a e2.length e2c] [.row m0, .row m1, .int op, .str q1.1, .int pop, .int pn, .str pnm, .str pfd, .row pl, .row ex, .bool dn, .bool mo, .row bd, .row el, .row en, .row e2] (W2.setCell ⟨W.heap.size + 1, 3, none⟩ (.string q1.1)) from Q2.out.set HLW.out 3 (.string q1.1) (.str q1.1) (.str _ M2.out))
  refine (F_p.out _ V_p.out (n + ((ex.flatMap (nE (N + 1))).length + ((bd.flatMap (nS N)).length + ((el.flatMap (nS N)).length + 0)))) _ q1.2 _ (by simp only [nE, List.length_append]; omega) R2.out.j.i (HGR.out _ R2.out.j.kept)).mono ?_
  rintro e W3 ⟨us3, rfl, d3, i3, k3⟩
  have Q3 := Lib.hid (R2.out.called k3 i3)
  obtain ⟨p3, o3, us2, hus⟩ := open5 (show AllAt (NewN C w0.heap.size (W.heap.size + 3) W3) us3 [.int pop, .int pn, .str (C.nm q1.2 pnm).1, .str (C.nm (C.nm q1.2 pnm).2 pfd).1, .row (turnL (tE C N) (C.nm (C.nm q1.2 pnm).2 pfd).2 pl).1] from AllAt.sub d3 (newN_less R2.out.j.sz))
  subst us2
  have M3 := Lib.hid hus
  have Q3 := Lib.hid (show BxD C w0.heap.size (n + ((ex.flatMap (nE (N + 1))).length + ((bd.flatMap (nS N)).length + ((el.flatMap (nS N)).length + 0)))) W (turnL (tE C N) (C.nm (C.nm q1.2 pnm).2 pfd).2 pl).2 84 [.slice p1 m0.length o1, .slice p1b m1.length o1b, .int .i64 op, .string q1.1, .int .i64 pop, .int .i64 pn, .string pnm, .string pfd, .slice pla pl.length plc, .slice exa ex.length exc, .bool dn, .bool mo, .slice bda bd.length bdc, .slice ela el.length elc, .slice ena en.length enc, .slice e2a e2.length e2c] [.row m0, .row m1, .int op, .str q1.1, .int pop, .int pn, .str pnm, .str pfd, .row pl, .row ex, .bool dn, .bool mo, .row bd, .row el, .row en, .row e2] W3 from Q3.out)
  clear i3 k3 d3 hus cA2 cB2 fB2
  generalize hq2 : C.nm q1.2 pnm = q2 at *
  have HQ2 := Lib.hid hq2
  clear hq2
  generalize hq3 : C.nm q2.2 pfd = q3 at *
  have HQ3 := Lib.hid hq3
  clear hq3
  generalize hq4 : turnL (tE C N) q3.2 pl = q4 at *
  have HQ4 := Lib.hid hq4
  clear hq4
  have cA3 := box_cells Q3.out.j.bt
  have cB3 : ∀ i, W3.cell? ⟨W.heap.size + 1, i, none⟩ = (#[.slice p1 m0.length o1, .slice p1b m1.length o1b, .int .i64 op, .string q1.1, .int .i64 pop, .int .i64 pn, .string pnm, .string pfd, .slice pla pl.length plc, .slice exa ex.length exc, .bool dn, .bool mo, .slice bda bd.length bdc, .slice ela el.length elc, .slice ena en.length enc, .slice e2a e2.length e2c] : Array Value)[i]? := box_cells Q3.out.j.bx
  have fB3 := frozen_box Q3.out.j.bx
  have ON3 := Lib.hid (show ∀ v ∈ ([.int .i64 pop, .int .i64 pn, .string q2.1, .string q3.1, .slice p3 q4.1.length o3] : List Value), v.oneCell' = true from AllAt.one M3.out)
  go_wp2_with (first | ((with_reducible refine wp_storeOff (o := ⟨none, .store 24 (.tmp 19) (.tmp 18), _, _, _, _⟩) rfl (.tmp 19) (.tmp 18) 24 rfl 5 Tryz.sizeOf24 (W.heap.size + 1) 4 [.slice p1 m0.length o1, .slice p1b m1.length o1b, .int .i64 op, .string q1.1, .int .i64 pop, .int .i64 pn, .string pnm, .string pfd, .slice pla pl.length plc, .slice exa ex.length exc, .bool dn, .bool mo, .slice bda bd.length bdc, .slice ela el.length elc, .slice ena en.length enc, .slice e2a e2.length e2c] (by decide) 84 Q3.out.j.bx ?_ [.int .i64 pop, .int .i64 pn, .string q2.1, .string q3.1, .slice p3 q4.1.length o3] ?_ rfl ON3.out ?_); rfl; rfl))
  have R3 := Lib.hid (show BxD C w0.heap.size (n + ((ex.flatMap (nE (N + 1))).length + ((bd.flatMap (nS N)).length + ((el.flatMap (nS N)).length + 0)))) W q4.2 84 [.slice p1 m0.length o1, .slice p1b m1.length o1b, .int .i64 op, .string q1.1, .int .i64 pop, .int .i64 pn, .string q2.1, .string q3.1, .slice p3 q4.1.length o3, .slice exa ex.length exc, .bool dn, .bool mo, .slice bda bd.length bdc, .slice ela el.length elc, .slice ena en.length enc, .slice e2a e2.length e2c] [.row m0, .row m1, .int op, .str q1.1, .int pop, .int pn, .str q2.1, .str q3.1, .row q4.1, .row ex, .bool dn, .bool mo, .row bd, .row el, .row en, .row e2] (W3.setCells (W.heap.size + 1) 4 [.int .i64 pop, .int .i64 pn, .string q2.1, .string q3.1, .slice p3 q4.1.length o3]) from BxD.sets HLW.out 4 Q3.out M3.out)
  refine (turnE_any C w0 HLOW.out (tE C (N + 1)) (nE (N + 1)) exa ex.length exc ex A_ex.out T_ex.out l_ex F_ex.out (fun y hy s => tE_len C (N + 1) s (T_ex.out y hy)) (n + ((bd.flatMap (nS N)).length + ((el.flatMap (nS N)).length + 0))) _ q4.2 (by omega) _ R3.out.j.i (HGR.out _ R3.out.j.kept)).mono ?_
  rintro e W4 ⟨p4, o4, rfl, d4, i4, k4⟩
  have Q4 := Lib.hid (R3.out.called k4 i4)
  have M4 := Lib.hid (d4.sub (newN_less R3.out.j.sz))
  clear i4 k4 d4 cA3 cB3 fB3
  generalize hq5 : turnL (tE C (N + 1)) q4.2 ex = q5 at *
  have HQ5 := Lib.hid hq5
  clear hq5
  have cA4 := box_cells Q4.out.j.bt
  have cB4 : ∀ i, W4.cell? ⟨W.heap.size + 1, i, none⟩ = (#[.slice p1 m0.length o1, .slice p1b m1.length o1b, .int .i64 op, .string q1.1, .int .i64 pop, .int .i64 pn, .string q2.1, .string q3.1, .slice p3 q4.1.length o3, .slice exa ex.length exc, .bool dn, .bool mo, .slice bda bd.length bdc, .slice ela el.length elc, .slice ena en.length enc, .slice e2a e2.length e2c] : Array Value)[i]? := box_cells Q4.out.j.bx
  have fB4 := frozen_box Q4.out.j.bx
  go_wp2_with fail
  have R4 := Lib.hid (show BxD C w0.heap.size (n + ((bd.flatMap (nS N)).length + ((el.flatMap (nS N)).length + 0))) W q5.2 84 [.slice p1 m0.length o1, .slice p1b m1.length o1b, .int .i64 op, .string q1.1, .int .i64 pop, .int .i64 pn, .string q2.1, .string q3.1, .slice p3 q4.1.length o3, .slice p4 q5.1.length o4, .bool dn, .bool mo, .slice bda bd.length bdc, .slice ela el.length elc, .slice ena en.length enc, .slice e2a e2.length e2c] [.row m0, .row m1, .int op, .str q1.1, .int pop, .int pn, .str q2.1, .str q3.1, .row q4.1, .row q5.1, .bool dn, .bool mo, .row bd, .row el, .row en, .row e2] (W4.setCell ⟨W.heap.size + 1, 9, none⟩ (.slice p4 q5.1.length o4)) from Q4.out.set HLW.out 9 (.slice p4 q5.1.length o4) (.row q5.1) M4.out)
  refine (turnS_any C w0 HLOW.out (tS C N) (nS N) bda bd.length bdc bd A_bd.out T_bd.out l_bd F_bd.out (fun y hy s => tS_len C N s (T_bd.out y hy)) (n + ((el.flatMap (nS N)).length + 0)) _ q5.2 (by omega) _ R4.out.j.i (HGR.out _ R4.out.j.kept)).mono ?_
  rintro e W5 ⟨p5, o5, rfl, d5, i5, k5⟩
  have Q5 := Lib.hid (R4.out.called k5 i5)
  have M5 := Lib.hid (d5.sub (newN_less R4.out.j.sz))
  clear i5 k5 d5 cA4 cB4 fB4
  generalize hq6 : turnL (tS C N) q5.2 bd = q6 at *
  have HQ6 := Lib.hid hq6
  clear hq6
  have cA5 := box_cells Q5.out.j.bt
  have cB5 : ∀ i, W5.cell? ⟨W.heap.size + 1, i, none⟩ = (#[.slice p1 m0.length o1, .slice p1b m1.length o1b, .int .i64 op, .string q1.1, .int .i64 pop, .int .i64 pn, .string q2.1, .string q3.1, .slice p3 q4.1.length o3, .slice p4 q5.1.length o4, .bool dn, .bool mo, .slice bda bd.length bdc, .slice ela el.length elc, .slice ena en.length enc, .slice e2a e2.length e2c] : Array Value)[i]? := box_cells Q5.out.j.bx
  have fB5 := frozen_box Q5.out.j.bx
  go_wp2_with fail
  have R5 := Lib.hid (show BxD C w0.heap.size (n + ((el.flatMap (nS N)).length + 0)) W q6.2 84 [.slice p1 m0.length o1, .slice p1b m1.length o1b, .int .i64 op, .string q1.1, .int .i64 pop, .int .i64 pn, .string q2.1, .string q3.1, .slice p3 q4.1.length o3, .slice p4 q5.1.length o4, .bool dn, .bool mo, .slice p5 q6.1.length o5, .slice ela el.length elc, .slice ena en.length enc, .slice e2a e2.length e2c] [.row m0, .row m1, .int op, .str q1.1, .int pop, .int pn, .str q2.1, .str q3.1, .row q4.1, .row q5.1, .bool dn, .bool mo, .row q6.1, .row el, .row en, .row e2] (W5.setCell ⟨W.heap.size + 1, 12, none⟩ (.slice p5 q6.1.length o5)) from Q5.out.set HLW.out 12 (.slice p5 q6.1.length o5) (.row q6.1) M5.out)
  refine (turnS_any C w0 HLOW.out (tS C N) (nS N) ela el.length elc el A_el.out T_el.out l_el F_el.out (fun y hy s => tS_len C N s (T_el.out y hy)) (n + 0) _ q6.2 (by omega) _ R5.out.j.i (HGR.out _ R5.out.j.kept)).mono ?_
  rintro e W6 ⟨p6, o6, rfl, d6, i6, k6⟩
  have Q6 := Lib.hid (R5.out.called k6 i6)
  have M6 := Lib.hid (d6.sub (newN_less R5.out.j.sz))
  clear i6 k6 d6 cA5 cB5 fB5
  generalize hq7 : turnL (tS C N) q6.2 el = q7 at *
  have HQ7 := Lib.hid hq7
  clear hq7
  have cA6 := box_cells Q6.out.j.bt
  have cB6 : ∀ i, W6.cell? ⟨W.heap.size + 1, i, none⟩ = (#[.slice p1 m0.length o1, .slice p1b m1.length o1b, .int .i64 op, .string q1.1, .int .i64 pop, .int .i64 pn, .string q2.1, .string q3.1, .slice p3 q4.1.length o3, .slice p4 q5.1.length o4, .bool dn, .bool mo, .slice p5 q6.1.length o5, .slice ela el.length elc, .slice ena en.length enc, .slice e2a e2.length e2c] : Array Value)[i]? := box_cells Q6.out.j.bx
  have fB6 := frozen_box Q6.out.j.bx
  go_wp2_with fail
  have R6 := Lib.hid (show BxD C w0.heap.size (n + 0) W q7.2 84 [.slice p1 m0.length o1, .slice p1b m1.length o1b, .int .i64 op, .string q1.1, .int .i64 pop, .int .i64 pn, .string q2.1, .string q3.1, .slice p3 q4.1.length o3, .slice p4 q5.1.length o4, .bool dn, .bool mo, .slice p5 q6.1.length o5, .slice p6 q7.1.length o6, .slice ena en.length enc, .slice e2a e2.length e2c] [.row m0, .row m1, .int op, .str q1.1, .int pop, .int pn, .str q2.1, .str q3.1, .row q4.1, .row q5.1, .bool dn, .bool mo, .row q6.1, .row q7.1, .row en, .row e2] (W6.setCell ⟨W.heap.size + 1, 13, none⟩ (.slice p6 q7.1.length o6)) from Q6.out.set HLW.out 13 (.slice p6 q7.1.length o6) (.row q7.1) M6.out)
  refine (tnotes_any C w0 HLOW.out ena en.length enc en A_en.out T_en.out l_en (n + 0) q7.2 _ R6.out.j.i (HGR.out _ R6.out.j.kept)).mono ?_
  rintro e W7 ⟨p7, o7, rfl, d7, i7, k7⟩
  have Q7 := Lib.hid (R6.out.called k7 i7)
  have M7 := Lib.hid (d7.sub (newN_less R6.out.j.sz))
  clear i7 k7 d7 cA6 cB6 fB6
  have cA7 := box_cells Q7.out.j.bt
  have cB7 : ∀ i, W7.cell? ⟨W.heap.size + 1, i, none⟩ = (#[.slice p1 m0.length o1, .slice p1b m1.length o1b, .int .i64 op, .string q1.1, .int .i64 pop, .int .i64 pn, .string q2.1, .string q3.1, .slice p3 q4.1.length o3, .slice p4 q5.1.length o4, .bool dn, .bool mo, .slice p5 q6.1.length o5, .slice p6 q7.1.length o6, .slice ena en.length enc, .slice e2a e2.length e2c] : Array Value)[i]? := box_cells Q7.out.j.bx
  have fB7 := frozen_box Q7.out.j.bx
  go_wp2_with fail
  have R7 := Lib.hid (show BxD C w0.heap.size (n + 0) W q7.2 84 [.slice p1 m0.length o1, .slice p1b m1.length o1b, .int .i64 op, .string q1.1, .int .i64 pop, .int .i64 pn, .string q2.1, .string q3.1, .slice p3 q4.1.length o3, .slice p4 q5.1.length o4, .bool dn, .bool mo, .slice p5 q6.1.length o5, .slice p6 q7.1.length o6, .slice p7 en.length o7, .slice e2a e2.length e2c] [.row m0, .row m1, .int op, .str q1.1, .int pop, .int pn, .str q2.1, .str q3.1, .row q4.1, .row q5.1, .bool dn, .bool mo, .row q6.1, .row q7.1, .row en, .row e2] (W7.setCell ⟨W.heap.size + 1, 14, none⟩ (.slice p7 en.length o7)) from Q7.out.set HLW.out 14 (.slice p7 en.length o7) (.row en) M7.out)
  refine (tnotes_any C w0 HLOW.out e2a e2.length e2c e2 A_e2.out T_e2.out l_e2 (n + 0) q7.2 _ R7.out.j.i (HGR.out _ R7.out.j.kept)).mono ?_
  rintro e W8 ⟨p8, o8, rfl, d8, i8, k8⟩
  have Q8 := Lib.hid (R7.out.called k8 i8)
  have M8 := Lib.hid (d8.sub (newN_less R7.out.j.sz))
  clear i8 k8 d8 cA7 cB7 fB7
  have cA8 := box_cells Q8.out.j.bt
  have cB8 : ∀ i, W8.cell? ⟨W.heap.size + 1, i, none⟩ = (#[.slice p1 m0.length o1, .slice p1b m1.length o1b, .int .i64 op, .string q1.1, .int .i64 pop, .int .i64 pn, .string q2.1, .string q3.1, .slice p3 q4.1.length o3, .slice p4 q5.1.length o4, .bool dn, .bool mo, .slice p5 q6.1.length o5, .slice p6 q7.1.length o6, .slice p7 en.length o7, .slice e2a e2.length e2c] : Array Value)[i]? := box_cells Q8.out.j.bx
  have fB8 := frozen_box Q8.out.j.bx
  have R8 := Lib.hid (show BxD C w0.heap.size (n + 0) W q7.2 84 [.slice p1 m0.length o1, .slice p1b m1.length o1b, .int .i64 op, .string q1.1, .int .i64 pop, .int .i64 pn, .string q2.1, .string q3.1, .slice p3 q4.1.length o3, .slice p4 q5.1.length o4, .bool dn, .bool mo, .slice p5 q6.1.length o5, .slice p6 q7.1.length o6, .slice p7 en.length o7, .slice p8 e2.length o8] [.row m0, .row m1, .int op, .str q1.1, .int pop, .int pn, .str q2.1, .str q3.1, .row q4.1, .row q5.1, .bool dn, .bool mo, .row q6.1, .row q7.1, .row en, .row e2] (W8.setCell ⟨W.heap.size + 1, 15, none⟩ (.slice p8 e2.length o8)) from Q8.out.set HLW.out 15 (.slice p8 e2.length o8) (.row e2) M8.out)
  have CL := Lib.hid (show ∀ (i : Nat) (v : Value), ([.slice p1 m0.length o1, .slice p1b m1.length o1b, .int .i64 op, .string q1.1, .int .i64 pop, .int .i64 pn, .string q2.1, .string q3.1, .slice p3 q4.1.length o3, .slice p4 q5.1.length o4, .bool dn, .bool mo, .slice p5 q6.1.length o5, .slice p6 q7.1.length o6, .slice p7 en.length o7, .slice p8 e2.length o8] : List Value)[i]? = some v → (W8.setCell ⟨W.heap.size + 1, 15, none⟩ (.slice p8 e2.length o8)).cell? ⟨W.heap.size + 1, 0 + i, none⟩ = some v from fun i v hv => by rw [box_cells R8.out.j.bx, Nat.zero_add]; simpa using hv)
  obtain ⟨zs, z1, z2⟩ := R8.out.j.br
  have Z1 := Lib.hid (show zs.length = 16 from z1)
  have LN := Lib.hid (show ([.slice p1 m0.length o1, .slice p1b m1.length o1b, .int .i64 op, .string q1.1, .int .i64 pop, .int .i64 pn, .string q2.1, .string q3.1, .slice p3 q4.1.length o3, .slice p4 q5.1.length o4, .bool dn, .bool mo, .slice p5 q6.1.length o5, .slice p6 q7.1.length o6, .slice p7 en.length o7, .slice p8 e2.length o8] : List Value).length = 16 from rfl)
  have ON := Lib.hid (show ∀ v ∈ ([.slice p1 m0.length o1, .slice p1b m1.length o1b, .int .i64 op, .string q1.1, .int .i64 pop, .int .i64 pn, .string q2.1, .string q3.1, .slice p3 q4.1.length o3, .slice p4 q5.1.length o4, .bool dn, .bool mo, .slice p5 q6.1.length o5, .slice p6 q7.1.length o6, .slice p7 en.length o7, .slice p8 e2.length o8] : List Value), v.oneCell' = true from AllAt.one R8.out.d)
  have Z2 := Lib.hid z2
  clear z1 z2
  go_wp2_with (first
    | ((with_reducible refine wp_loadAgg (o := ⟨some 48, _, _, _, _, _⟩) rfl (.tmp 3) 84 rfl 16 Tryz.isAgg84 Tryz.sizeOf84 (W.heap.size + 1) 0 ?_ [.slice p1 m0.length o1, .slice p1b m1.length o1b, .int .i64 op, .string q1.1, .int .i64 pop, .int .i64 pn, .string q2.1, .string q3.1, .slice p3 q4.1.length o3, .slice p4 q5.1.length o4, .bool dn, .bool mo, .slice p5 q6.1.length o5, .slice p6 q7.1.length o6, .slice p7 en.length o7, .slice p8 e2.length o8] LN.out CL.out ?_); rfl)
    | ((with_reducible refine wp_storeOld (o := ⟨none, .store 84 (.tmp 4) (.tmp 48), _, _, _, _⟩) rfl (.tmp 4) (.tmp 48) 84 rfl 16 Tryz.sizeOf84 (W.heap.size + 2) zs Z1.out 84 Z2.out ?_ [.slice p1 m0.length o1, .slice p1b m1.length o1b, .int .i64 op, .string q1.1, .int .i64 pop, .int .i64 pn, .string q2.1, .string q3.1, .slice p3 q4.1.length o3, .slice p4 q5.1.length o4, .bool dn, .bool mo, .slice p5 q6.1.length o5, .slice p6 q7.1.length o6, .slice p7 en.length o7, .slice p8 e2.length o8] ?_ LN.out ON.out ?_); rfl; rfl))
  refine bodyPost_ret (v := .agg ⟨[.slice p1 m0.length o1, .slice p1b m1.length o1b, .int .i64 op, .string q1.1, .int .i64 pop, .int .i64 pn, .string q2.1, .string q3.1, .slice p3 q4.1.length o3, .slice p4 q5.1.length o4, .bool dn, .bool mo, .slice p5 q6.1.length o5, .slice p6 q7.1.length o6, .slice p7 en.length o7, .slice p8 e2.length o8]⟩) ?_ rfl ?_
  · exact results_cell (i := 4) (b := W.heap.size + 2) Tryz.results95 Tryz.isAgg84 Tryz.sizeOf84 rfl rfl R8.out.j.last.1
  · have HO : tS C (N + 1) st [.row m0, .row m1, .int op, .str nm, .int pop, .int pn, .str pnm, .str pfd, .row pl, .row ex, .bool dn, .bool mo, .row bd, .row el, .row en, .row e2] = ([.row m0, .row m1, .int op, .str q1.1, .int pop, .int pn, .str q2.1, .str q3.1, .row q4.1, .row q5.1, .bool dn, .bool mo, .row q6.1, .row q7.1, .row en, .row e2], q7.2) := by
      show (([.row m0, .row m1, .int op, .str (C.nm st nm).1, .int pop, .int pn, .str (C.nm (C.nm st nm).2 pnm).1, .str (C.nm (C.nm (C.nm st nm).2 pnm).2 pfd).1, .row (turnL (tE C N) (C.nm (C.nm (C.nm st nm).2 pnm).2 pfd).2 pl).1, .row (turnL (tE C (N + 1)) (turnL (tE C N) (C.nm (C.nm (C.nm st nm).2 pnm).2 pfd).2 pl).2 ex).1, .bool dn, .bool mo, .row (turnL (tS C N) (turnL (tE C (N + 1)) (turnL (tE C N) (C.nm (C.nm (C.nm st nm).2 pnm).2 pfd).2 pl).2 ex).2 bd).1, .row (turnL (tS C N) (turnL (tS C N) (turnL (tE C (N + 1)) (turnL (tE C N) (C.nm (C.nm (C.nm st nm).2 pnm).2 pfd).2 pl).2 ex).2 bd).2 el).1, .row en, .row e2] : List D), (turnL (tS C N) (turnL (tS C N) (turnL (tE C (N + 1)) (turnL (tE C N) (C.nm (C.nm (C.nm st nm).2 pnm).2 pfd).2 pl).2 ex).2 bd).2 el).2) = _
      rw [HQ1.out, HQ2.out, HQ3.out, HQ4.out, HQ5.out, HQ6.out, HQ7.out]
    rw [HO]
    exact ⟨[.slice p1 m0.length o1, .slice p1b m1.length o1b, .int .i64 op, .string q1.1, .int .i64 pop, .int .i64 pn, .string q2.1, .string q3.1, .slice p3 q4.1.length o3, .slice p4 q5.1.length o4, .bool dn, .bool mo, .slice p5 q6.1.length o5, .slice p6 q7.1.length o6, .slice p7 en.length o7, .slice p8 e2.length o8], rfl, R8.out.last HLW.out, R8.out.j.last.2.1, R8.out.j.last.2.2⟩
end Go.Proofs.YtciijpahjjoppaaGreat
end
section
namespace Go.Proofs.YtciijpahjjoppaaGreat
open Go.RowKit Go.Shelf Go.Deep
set_option maxRecDepth 100000 in
set_option maxHeartbeats 16000000 in
theorem tmR_any {σ : Type} {g : Nat} {c1 c2 : Value} (C : Clo σ g c1 c2) (hg : g = 50 ∨ g = 59) (hout : ∀ s x, x.size ≤ lim → (C.out s x).size ≤ lim) (w0 : World) (hlow : w0.heap.size ≤ C.low) (N : Nat) (x : List D) (hx : ShR x) (hb : mRow x ≤ 8000000) (hP : ∀ y, ShP y → mRow y ≤ mRow x → TFn C w0 129 (tP C) nP y) (hV : ∀ y, ShV y → mRow y ≤ mRow x → TFn C w0 91 (tV C) nV y) (hR : ∀ l, D.row l ∈ x → (∀ y ∈ l, ShR y) → ∀ y ∈ l, TFn C w0 93 (tR C N) (nR N) y) (hS : ∀ y, ShS y → mRow y ≤ mRow x → TFn C w0 95 (tS C (N + 1)) (nS (N + 1)) y) : TFn C w0 93 (tR C (N + 1)) (nR (N + 1)) x := by
  intro vs hv n m st W hm hI hW
  obtain ⟨m0, m1, nm, rs, ps, vr, inn, bd, en, m0a, m0c, m1a, m1c, psa, psc, vra, vrc, inna, innc, bda, bdc, ena, enc, rfl, rfl, a_m0, a_m1, i_nm, _, a_ps, a_vr, a_inn, a_bd, a_en, t_m0, t_m1, t_ps, t_vr, t_inn, t_bd, t_en⟩ := hv.openR hx
  have F_ps := Lib.hid (fun y (hy : y ∈ ps) => hP y (t_ps y hy) (by have := mRows_mem hy; simp only [mRow, mD]; omega))
  have F_vr := Lib.hid (fun y (hy : y ∈ vr) => hV y (t_vr y hy) (by have := mRows_mem hy; simp only [mRow, mD]; omega))
  have F_inn := Lib.hid (hR inn (by simp) t_inn)
  have F_bd := Lib.hid (fun y (hy : y ∈ bd) => hS y (t_bd y hy) (by have := mRows_mem hy; simp only [mRow, mD]; omega))
  simp only [mRow, mD] at hb
  have l_m0 : m0.length ≤ 8000000 := by have := mRows_len m0 (fun y hy e => by rw [e] at hy; cases t_m0 _ hy); omega
  have l_m1 : m1.length ≤ 8000000 := by have := mRows_len m1 (fun y hy e => by rw [e] at hy; cases t_m1 _ hy); omega
  have l_ps : ps.length ≤ 8000000 := by have := mRows_len ps (fun y hy e => by rw [e] at hy; cases t_ps _ hy); omega
  have l_vr : vr.length ≤ 8000000 := by have := mRows_len vr (fun y hy e => by rw [e] at hy; cases t_vr _ hy); omega
  have l_inn : inn.length ≤ 8000000 := by have := mRows_len inn (fun y hy e => by rw [e] at hy; cases t_inn _ hy); omega
  have l_bd : bd.length ≤ 8000000 := by have := mRows_len bd (fun y hy e => by rw [e] at hy; cases t_bd _ hy); omega
  have l_en : en.length ≤ 8000000 := by have := mRows_len en (fun y hy e => by rw [e] at hy; cases t_en _ hy); omega
  have hm2 : n + ((parts nm).length + ((ps.flatMap nP).length + ((vr.flatMap nV).length + ((inn.flatMap (nR N)).length + ((bd.flatMap (nS (N + 1))).length + 0))))) ≤ m := by simp only [nR, List.length_append] at hm; omega
  have J0 := Lib.hid (BxD.start C hlow (T := 80) (cs := #[.slice m0a m0.length m0c, .slice m1a m1.length m1c, .string nm, .int .i64 rs, .slice psa ps.length psc, .slice vra vr.length vrc, .slice inna inn.length innc, .slice bda bd.length bdc, .slice ena en.length enc]) (ds := [.row m0, .row m1, .str nm, .int rs, .row ps, .row vr, .row inn, .row bd, .row en]) (zs := #[.slice none 0 0, .slice none 0 0, .string ⟨#[]⟩, .int .i64 0, .slice none 0 0, .slice none 0 0, .slice none 0 0, .slice none 0 0, .slice none 0 0]) rfl (C.atLeast hI hm2) hW hv)
  have HG := Lib.hid hg
  have HLW := Lib.hid hW.size
  have HLOW := Lib.hid hlow
  have HOUT := Lib.hid hout
  have HGR := Lib.hid (fun (V : World) (k : Kept C.O C.hi W V) => k.ground hI hlow hW)
  have A_m0 := Lib.hid a_m0
  have T_m0 := Lib.hid t_m0
  have A_m1 := Lib.hid a_m1
  have T_m1 := Lib.hid t_m1
  have A_ps := Lib.hid a_ps
  have T_ps := Lib.hid t_ps
  have A_vr := Lib.hid a_vr
  have T_vr := Lib.hid t_vr
  have A_inn := Lib.hid a_inn
  have T_inn := Lib.hid t_inn
  have A_bd := Lib.hid a_bd
  have T_bd := Lib.hid t_bd
  have A_en := Lib.hid a_en
  have T_en := Lib.hid t_en
  clear hI hg hW hlow hout hm hm2 hv hx a_m0 a_m1 a_ps a_vr a_inn a_bd a_en t_m0 t_m1 t_ps t_vr t_inn t_bd t_en hP hV hR hS
  go_enter Tryz.func93, Tryz.ntmps93
  go_wp2_with fail
  refine (tmarks_any C w0 HLOW.out m0 m1 m0a m0c m1a m1c A_m0.out A_m1.out T_m0.out T_m1.out l_m0 l_m1 (n + ((parts nm).length + ((ps.flatMap nP).length + ((vr.flatMap nV).length + ((inn.flatMap (nR N)).length + ((bd.flatMap (nS (N + 1))).length + 0)))))) st _ J0.out.j.i (HGR.out _ J0.out.j.kept)).mono ?_
  rintro e W1 ⟨p1, o1, p1b, o1b, rfl, d1, d1b, i1, k1⟩
  have Q1 := Lib.hid (J0.out.called k1 i1)
  have M1 := Lib.hid (show AllAt (NewN C w0.heap.size (W.heap.size + 3) W1) [.slice p1 m0.length o1, .slice p1b m1.length o1b] [.row m0, .row m1] from ⟨d1.sub (newN_less J0.out.j.sz), d1b.sub (newN_less J0.out.j.sz), trivial⟩)
  clear i1 k1 d1 d1b
  have cA1 := box_cells Q1.out.j.bt
  have cB1 : ∀ i, W1.cell? ⟨W.heap.size + 1, i, none⟩ = (#[.slice m0a m0.length m0c, .slice m1a m1.length m1c, .string nm, .int .i64 rs, .slice psa ps.length psc, .slice vra vr.length vrc, .slice inna inn.length innc, .slice bda bd.length bdc, .slice ena en.length enc] : Array Value)[i]? := box_cells Q1.out.j.bx
  have fB1 := frozen_box Q1.out.j.bx
  have ON1 := Lib.hid (show ∀ v ∈ ([.slice p1 m0.length o1, .slice p1b m1.length o1b] : List Value), v.oneCell' = true from AllAt.one M1.out)
  go_wp2_with (first | ((with_reducible refine wp_storeOff (o := ⟨none, .store 59 (.tmp 9) (.tmp 8), _, _, _, _⟩) rfl (.tmp 9) (.tmp 8) 59 rfl 2 Tryz.sizeOf59 (W.heap.size + 1) 0 [.slice m0a m0.length m0c, .slice m1a m1.length m1c, .string nm, .int .i64 rs, .slice psa ps.length psc, .slice vra vr.length vrc, .slice inna inn.length innc, .slice bda bd.length bdc, .slice ena en.length enc] (by decide) 80 Q1.out.j.bx ?_ [.slice p1 m0.length o1, .slice p1b m1.length o1b] ?_ rfl ON1.out ?_); rfl; rfl))
  have R1 := Lib.hid (show BxD C w0.heap.size (n + ((parts nm).length + ((ps.flatMap nP).length + ((vr.flatMap nV).length + ((inn.flatMap (nR N)).length + ((bd.flatMap (nS (N + 1))).length + 0)))))) W st 80 [.slice p1 m0.length o1, .slice p1b m1.length o1b, .string nm, .int .i64 rs, .slice psa ps.length psc, .slice vra vr.length vrc, .slice inna inn.length innc, .slice bda bd.length bdc, .slice ena en.length enc] [.row m0, .row m1, .str nm, .int rs, .row ps, .row vr, .row inn, .row bd, .row en] (W1.setCells (W.heap.size + 1) 0 [.slice p1 m0.length o1, .slice p1b m1.length o1b]) from BxD.sets HLW.out 0 Q1.out M1.out)
  refine (name_any C HG.out (n + ((ps.flatMap nP).length + ((vr.flatMap nV).length + ((inn.flatMap (nR N)).length + ((bd.flatMap (nS (N + 1))).length + 0))))) st nm _ (C.atLeast R1.out.j.i (by omega)) (by unfold lim; omega)).mono ?_
  rintro e W2 ⟨rfl, i2, k2⟩
  have Q2 := Lib.hid (R1.out.called k2 i2)
  have M2 := Lib.hid (nm_le C HOUT.out st nm (by omega))
  clear i2 k2 cA1 cB1 fB1
  generalize hq1 : C.nm st nm = q1 at *
  have HQ1 := Lib.hid hq1
  clear hq1
  have cA2 := box_cells Q2.out.j.bt
  have cB2 : ∀ i, W2.cell? ⟨W.heap.size + 1, i, none⟩ = (#[.slice p1 m0.length o1, .slice p1b m1.length o1b, .string nm, .int .i64 rs, .slice psa ps.length psc, .slice vra vr.length vrc, .slice inna inn.length innc, .slice bda bd.length bdc, .slice ena en.length enc] : Array Value)[i]? := box_cells Q2.out.j.bx
  have fB2 := frozen_box Q2.out.j.bx
  go_wp2_with fail
  have R2 := Lib.hid (show BxD C w0.heap.size (n + ((ps.flatMap nP).length + ((vr.flatMap nV).length + ((inn.flatMap (nR N)).length + ((bd.flatMap (nS (N + 1))).length + 0))))) W q1.2 80 [.slice p1 m0.length o1, .slice p1b m1.length o1b, .string q1.1, .int .i64 rs, .slice psa ps.length psc, .slice vra vr.length vrc, .slice inna inn.length innc, .slice bda bd.length bdc, .slice ena en.length enc] [.row m0, .row m1, .str q1.1, .int rs, .row ps, .row vr, .row inn, .row bd, .row en] (W2.setCell ⟨W.heap.size + 1, 2, none⟩ (.string q1.1)) from Q2.out.set HLW.out 2 (.string q1.1) (.str q1.1) (.str _ M2.out))
  refine (turnP_any C w0 HLOW.out (tP C) nP psa ps.length psc ps A_ps.out T_ps.out l_ps F_ps.out (fun y hy s => tP_len C s (T_ps.out y hy)) (n + ((vr.flatMap nV).length + ((inn.flatMap (nR N)).length + ((bd.flatMap (nS (N + 1))).length + 0)))) _ q1.2 (by omega) _ R2.out.j.i (HGR.out _ R2.out.j.kept)).mono ?_
  rintro e W3 ⟨p3, o3, rfl, d3, i3, k3⟩
  have Q3 := Lib.hid (R2.out.called k3 i3)
  have M3 := Lib.hid (d3.sub (newN_less R2.out.j.sz))
  clear i3 k3 d3 cA2 cB2 fB2
  generalize hq2 : turnL (tP C) q1.2 ps = q2 at *
  have HQ2 := Lib.hid hq2
  clear hq2
  have cA3 := box_cells Q3.out.j.bt
  have cB3 : ∀ i, W3.cell? ⟨W.heap.size + 1, i, none⟩ = (#[.slice p1 m0.length o1, .slice p1b m1.length o1b, .string q1.1, .int .i64 rs, .slice psa ps.length psc, .slice vra vr.length vrc, .slice inna inn.length innc, .slice bda bd.length bdc, .slice ena en.length enc] : Array Value)[i]? := box_cells Q3.out.j.bx
  have fB3 := frozen_box Q3.out.j.bx
  go_wp2_with fail
  have R3 := Lib.hid (show BxD C w0.heap.size (n + ((vr.flatMap nV).length + ((inn.flatMap (nR N)).length + ((bd.flatMap (nS (N + 1))).length + 0)))) W q2.2 80 [.slice p1 m0.length o1, .slice p1b m1.length o1b, .string q1.1, .int .i64 rs, .slice p3 q2.1.length o3, .slice vra vr.length vrc, .slice inna inn.length innc, .slice bda bd.length bdc, .slice ena en.length enc] [.row m0, .row m1, .str q1.1, .int rs, .row q2.1, .row vr, .row inn, .row bd, .row en] (W3.setCell ⟨W.heap.size + 1, 4, none⟩ (.slice p3 q2.1.length o3)) from Q3.out.set HLW.out 4 (.slice p3 q2.1.length o3) (.row q2.1) M3.out)
  refine (turnV_any C w0 HLOW.out (tV C) nV vra vr.length vrc vr A_vr.out T_vr.out l_vr F_vr.out (fun y hy s => tV_len C s (T_vr.out y hy)) (n + ((inn.flatMap (nR N)).length + ((bd.flatMap (nS (N + 1))).length + 0))) _ q2.2 (by omega) _ R3.out.j.i (HGR.out _ R3.out.j.kept)).mono ?_
  rintro e W4 ⟨p4, o4, rfl, d4, i4, k4⟩
  have Q4 := Lib.hid (R3.out.called k4 i4)
  have M4 := Lib.hid (d4.sub (newN_less R3.out.j.sz))
  clear i4 k4 d4 cA3 cB3 fB3
  generalize hq3 : turnL (tV C) q2.2 vr = q3 at *
  have HQ3 := Lib.hid hq3
  clear hq3
  have cA4 := box_cells Q4.out.j.bt
  have cB4 : ∀ i, W4.cell? ⟨W.heap.size + 1, i, none⟩ = (#[.slice p1 m0.length o1, .slice p1b m1.length o1b, .string q1.1, .int .i64 rs, .slice p3 q2.1.length o3, .slice vra vr.length vrc, .slice inna inn.length innc, .slice bda bd.length bdc, .slice ena en.length enc] : Array Value)[i]? := box_cells Q4.out.j.bx
  have fB4 := frozen_box Q4.out.j.bx
  go_wp2_with fail
  have R4 := Lib.hid (show BxD C w0.heap.size (n + ((inn.flatMap (nR N)).length + ((bd.flatMap (nS (N + 1))).length + 0))) W q3.2 80 [.slice p1 m0.length o1, .slice p1b m1.length o1b, .string q1.1, .int .i64 rs, .slice p3 q2.1.length o3, .slice p4 q3.1.length o4, .slice inna inn.length innc, .slice bda bd.length bdc, .slice ena en.length enc] [.row m0, .row m1, .str q1.1, .int rs, .row q2.1, .row q3.1, .row inn, .row bd, .row en] (W4.setCell ⟨W.heap.size + 1, 5, none⟩ (.slice p4 q3.1.length o4)) from Q4.out.set HLW.out 5 (.slice p4 q3.1.length o4) (.row q3.1) M4.out)
  refine (turnR_any C w0 HLOW.out (tR C N) (nR N) inna inn.length innc inn A_inn.out T_inn.out l_inn F_inn.out (fun y hy s => tR_len C N s (T_inn.out y hy)) (n + ((bd.flatMap (nS (N + 1))).length + 0)) _ q3.2 (by omega) _ R4.out.j.i (HGR.out _ R4.out.j.kept)).mono ?_
  rintro e W5 ⟨p5, o5, rfl, d5, i5, k5⟩
  have Q5 := Lib.hid (R4.out.called k5 i5)
  have M5 := Lib.hid (d5.sub (newN_less R4.out.j.sz))
  clear i5 k5 d5 cA4 cB4 fB4
  generalize hq4 : turnL (tR C N) q3.2 inn = q4 at *
  have HQ4 := Lib.hid hq4
  clear hq4
  have cA5 := box_cells Q5.out.j.bt
  have cB5 : ∀ i, W5.cell? ⟨W.heap.size + 1, i, none⟩ = (#[.slice p1 m0.length o1, .slice p1b m1.length o1b, .string q1.1, .int .i64 rs, .slice p3 q2.1.length o3, .slice p4 q3.1.length o4, .slice inna inn.length innc, .slice bda bd.length bdc, .slice ena en.length enc] : Array Value)[i]? := box_cells Q5.out.j.bx
  have fB5 := frozen_box Q5.out.j.bx
  go_wp2_with fail
  have R5 := Lib.hid (show BxD C w0.heap.size (n + ((bd.flatMap (nS (N + 1))).length + 0)) W q4.2 80 [.slice p1 m0.length o1, .slice p1b m1.length o1b, .string q1.1, .int .i64 rs, .slice p3 q2.1.length o3, .slice p4 q3.1.length o4, .slice p5 q4.1.length o5, .slice bda bd.length bdc, .slice ena en.length enc] [.row m0, .row m1, .str q1.1, .int rs, .row q2.1, .row q3.1, .row q4.1, .row bd, .row en] (W5.setCell ⟨W.heap.size + 1, 6, none⟩ (.slice p5 q4.1.length o5)) from Q5.out.set HLW.out 6 (.slice p5 q4.1.length o5) (.row q4.1) M5.out)
  refine (turnS_any C w0 HLOW.out (tS C (N + 1)) (nS (N + 1)) bda bd.length bdc bd A_bd.out T_bd.out l_bd F_bd.out (fun y hy s => tS_len C (N + 1) s (T_bd.out y hy)) (n + 0) _ q4.2 (by omega) _ R5.out.j.i (HGR.out _ R5.out.j.kept)).mono ?_
  rintro e W6 ⟨p6, o6, rfl, d6, i6, k6⟩
  have Q6 := Lib.hid (R5.out.called k6 i6)
  have M6 := Lib.hid (d6.sub (newN_less R5.out.j.sz))
  clear i6 k6 d6 cA5 cB5 fB5
  generalize hq5 : turnL (tS C (N + 1)) q4.2 bd = q5 at *
  have HQ5 := Lib.hid hq5
  clear hq5
  have cA6 := box_cells Q6.out.j.bt
  have cB6 : ∀ i, W6.cell? ⟨W.heap.size + 1, i, none⟩ = (#[.slice p1 m0.length o1, .slice p1b m1.length o1b, .string q1.1, .int .i64 rs, .slice p3 q2.1.length o3, .slice p4 q3.1.length o4, .slice p5 q4.1.length o5, .slice bda bd.length bdc, .slice ena en.length enc] : Array Value)[i]? := box_cells Q6.out.j.bx
  have fB6 := frozen_box Q6.out.j.bx
  go_wp2_with fail
  have R6 := Lib.hid (show BxD C w0.heap.size (n + 0) W q5.2 80 [.slice p1 m0.length o1, .slice p1b m1.length o1b, .string q1.1, .int .i64 rs, .slice p3 q2.1.length o3, .slice p4 q3.1.length o4, .slice p5 q4.1.length o5, .slice p6 q5.1.length o6, .slice ena en.length enc] [.row m0, .row m1, .str q1.1, .int rs, .row q2.1, .row q3.1, .row q4.1, .row q5.1, .row en] (W6.setCell ⟨W.heap.size + 1, 7, none⟩ (.slice p6 q5.1.length o6)) from Q6.out.set HLW.out 7 (.slice p6 q5.1.length o6) (.row q5.1) M6.out)
  refine (tnotes_any C w0 HLOW.out ena en.length enc en A_en.out T_en.out l_en (n + 0) q5.2 _ R6.out.j.i (HGR.out _ R6.out.j.kept)).mono ?_
  rintro e W7 ⟨p7, o7, rfl, d7, i7, k7⟩
  have Q7 := Lib.hid (R6.out.called k7 i7)
  have M7 := Lib.hid (d7.sub (newN_less R6.out.j.sz))
  clear i7 k7 d7 cA6 cB6 fB6
  have cA7 := box_cells Q7.out.j.bt
  have cB7 : ∀ i, W7.cell? ⟨W.heap.size + 1, i, none⟩ = (#[.slice p1 m0.length o1, .slice p1b m1.length o1b, .string q1.1, .int .i64 rs, .slice p3 q2.1.length o3, .slice p4 q3.1.length o4, .slice p5 q4.1.length o5, .slice p6 q5.1.length o6, .slice ena en.length enc] : Array Value)[i]? := box_cells Q7.out.j.bx
  have fB7 := frozen_box Q7.out.j.bx
  have R7 := Lib.hid (show BxD C w0.heap.size (n + 0) W q5.2 80 [.slice p1 m0.length o1, .slice p1b m1.length o1b, .string q1.1, .int .i64 rs, .slice p3 q2.1.length o3, .slice p4 q3.1.length o4, .slice p5 q4.1.length o5, .slice p6 q5.1.length o6, .slice p7 en.length o7] [.row m0, .row m1, .str q1.1, .int rs, .row q2.1, .row q3.1, .row q4.1, .row q5.1, .row en] (W7.setCell ⟨W.heap.size + 1, 8, none⟩ (.slice p7 en.length o7)) from Q7.out.set HLW.out 8 (.slice p7 en.length o7) (.row en) M7.out)
  have CL := Lib.hid (show ∀ (i : Nat) (v : Value), ([.slice p1 m0.length o1, .slice p1b m1.length o1b, .string q1.1, .int .i64 rs, .slice p3 q2.1.length o3, .slice p4 q3.1.length o4, .slice p5 q4.1.length o5, .slice p6 q5.1.length o6, .slice p7 en.length o7] : List Value)[i]? = some v → (W7.setCell ⟨W.heap.size + 1, 8, none⟩ (.slice p7 en.length o7)).cell? ⟨W.heap.size + 1, 0 + i, none⟩ = some v from fun i v hv => by rw [box_cells R7.out.j.bx, Nat.zero_add]; simpa using hv)
  obtain ⟨zs, z1, z2⟩ := R7.out.j.br
  have Z1 := Lib.hid (show zs.length = 9 from z1)
  have LN := Lib.hid (show ([.slice p1 m0.length o1, .slice p1b m1.length o1b, .string q1.1, .int .i64 rs, .slice p3 q2.1.length o3, .slice p4 q3.1.length o4, .slice p5 q4.1.length o5, .slice p6 q5.1.length o6, .slice p7 en.length o7] : List Value).length = 9 from rfl)
  have ON := Lib.hid (show ∀ v ∈ ([.slice p1 m0.length o1, .slice p1b m1.length o1b, .string q1.1, .int .i64 rs, .slice p3 q2.1.length o3, .slice p4 q3.1.length o4, .slice p5 q4.1.length o5, .slice p6 q5.1.length o6, .slice p7 en.length o7] : List Value), v.oneCell' = true from AllAt.one R7.out.d)
  have Z2 := Lib.hid z2
  clear z1 z2
  go_wp2_with (first
    | ((with_reducible refine wp_loadAgg (o := ⟨some 44, _, _, _, _, _⟩) rfl (.tmp 3) 80 rfl 9 Tryz.isAgg80 Tryz.sizeOf80 (W.heap.size + 1) 0 ?_ [.slice p1 m0.length o1, .slice p1b m1.length o1b, .string q1.1, .int .i64 rs, .slice p3 q2.1.length o3, .slice p4 q3.1.length o4, .slice p5 q4.1.length o5, .slice p6 q5.1.length o6, .slice p7 en.length o7] LN.out CL.out ?_); rfl)
    | ((with_reducible refine wp_storeOld (o := ⟨none, .store 80 (.tmp 4) (.tmp 44), _, _, _, _⟩) rfl (.tmp 4) (.tmp 44) 80 rfl 9 Tryz.sizeOf80 (W.heap.size + 2) zs Z1.out 80 Z2.out ?_ [.slice p1 m0.length o1, .slice p1b m1.length o1b, .string q1.1, .int .i64 rs, .slice p3 q2.1.length o3, .slice p4 q3.1.length o4, .slice p5 q4.1.length o5, .slice p6 q5.1.length o6, .slice p7 en.length o7] ?_ LN.out ON.out ?_); rfl; rfl))
  refine bodyPost_ret (v := .agg ⟨[.slice p1 m0.length o1, .slice p1b m1.length o1b, .string q1.1, .int .i64 rs, .slice p3 q2.1.length o3, .slice p4 q3.1.length o4, .slice p5 q4.1.length o5, .slice p6 q5.1.length o6, .slice p7 en.length o7]⟩) ?_ rfl ?_
  · exact results_cell (i := 4) (b := W.heap.size + 2) Tryz.results93 Tryz.isAgg80 Tryz.sizeOf80 rfl rfl R7.out.j.last.1
  · have HO : tR C (N + 1) st [.row m0, .row m1, .str nm, .int rs, .row ps, .row vr, .row inn, .row bd, .row en] = ([.row m0, .row m1, .str q1.1, .int rs, .row q2.1, .row q3.1, .row q4.1, .row q5.1, .row en], q5.2) := by
      show (([.row m0, .row m1, .str (C.nm st nm).1, .int rs, .row (turnL (tP C) (C.nm st nm).2 ps).1, .row (turnL (tV C) (turnL (tP C) (C.nm st nm).2 ps).2 vr).1, .row (turnL (tR C N) (turnL (tV C) (turnL (tP C) (C.nm st nm).2 ps).2 vr).2 inn).1, .row (turnL (tS C (N + 1)) (turnL (tR C N) (turnL (tV C) (turnL (tP C) (C.nm st nm).2 ps).2 vr).2 inn).2 bd).1, .row en] : List D), (turnL (tS C (N + 1)) (turnL (tR C N) (turnL (tV C) (turnL (tP C) (C.nm st nm).2 ps).2 vr).2 inn).2 bd).2) = _
      rw [HQ1.out, HQ2.out, HQ3.out, HQ4.out, HQ5.out]
    rw [HO]
    exact ⟨[.slice p1 m0.length o1, .slice p1b m1.length o1b, .string q1.1, .int .i64 rs, .slice p3 q2.1.length o3, .slice p4 q3.1.length o4, .slice p5 q4.1.length o5, .slice p6 q5.1.length o6, .slice p7 en.length o7], rfl, R7.out.last HLW.out, R7.out.j.last.2.1, R7.out.j.last.2.2⟩
end Go.Proofs.YtciijpahjjoppaaGreat
end
section
namespace Go.Proofs.YtciijpahjjoppaaGreat
open Go.RowKit Go.Shelf Go.Deep
set_option maxRecDepth 100000 in
set_option maxHeartbeats 16000000 in
theorem tmG_any {σ : Type} {g : Nat} {c1 c2 : Value} (C : Clo σ g c1 c2) (hg : g = 50 ∨ g = 59) (hout : ∀ s x, x.size ≤ lim → (C.out s x).size ≤ lim) (w0 : World) (hlow : w0.heap.size ≤ C.low) (N : Nat) (x : List D) (hx : ShG x) (hb : mRow x ≤ 8000000) (hC : ∀ y, ShC y → mRow y ≤ mRow x → TFn C w0 89 (tC C) nC y) (hV : ∀ y, ShV y → mRow y ≤ mRow x → TFn C w0 91 (tV C) nV y) (hR : ∀ y, ShR y → mRow y ≤ mRow x → TFn C w0 93 (tR C N) (nR N) y) (hS : ∀ y, ShS y → mRow y ≤ mRow x → TFn C w0 95 (tS C N) (nS N) y) : TFn C w0 51 (tG C N) (nG N) x := by
  intro vs hv n m st W hm hI hW
  obtain ⟨nm, be, mi, af, rc, vr, rt, bd, en, bea, bec, mia, mic, afa, afc, rca, rcc, vra, vrc, rta, rtc, bda, bdc, ena, enc, rfl, rfl, i_nm, a_be, a_mi, a_af, a_rc, a_vr, a_rt, a_bd, a_en, t_be, t_mi, t_af, t_rc, t_vr, t_rt, t_bd, t_en⟩ := hv.openG hx
  have F_rc := Lib.hid (fun y (hy : y ∈ rc) => hC y (t_rc y hy) (by have := mRows_mem hy; simp only [mRow, mD]; omega))
  have F_vr := Lib.hid (fun y (hy : y ∈ vr) => hV y (t_vr y hy) (by have := mRows_mem hy; simp only [mRow, mD]; omega))
  have F_rt := Lib.hid (fun y (hy : y ∈ rt) => hR y (t_rt y hy) (by have := mRows_mem hy; simp only [mRow, mD]; omega))
  have F_bd := Lib.hid (fun y (hy : y ∈ bd) => hS y (t_bd y hy) (by have := mRows_mem hy; simp only [mRow, mD]; omega))
  simp only [mRow, mD] at hb
  have l_be : be.length ≤ 8000000 := by have := mRows_len be (fun y hy e => by rw [e] at hy; cases t_be _ hy); omega
  have l_mi : mi.length ≤ 8000000 := by have := mRows_len mi (fun y hy e => by rw [e] at hy; cases t_mi _ hy); omega
  have l_af : af.length ≤ 8000000 := by have := mRows_len af (fun y hy e => by rw [e] at hy; cases t_af _ hy); omega
  have l_rc : rc.length ≤ 8000000 := by have := mRows_len rc (fun y hy e => by rw [e] at hy; cases t_rc _ hy); omega
  have l_vr : vr.length ≤ 8000000 := by have := mRows_len vr (fun y hy e => by rw [e] at hy; cases t_vr _ hy); omega
  have l_rt : rt.length ≤ 8000000 := by have := mRows_len rt (fun y hy e => by rw [e] at hy; cases t_rt _ hy); omega
  have l_bd : bd.length ≤ 8000000 := by have := mRows_len bd (fun y hy e => by rw [e] at hy; cases t_bd _ hy); omega
  have l_en : en.length ≤ 8000000 := by have := mRows_len en (fun y hy e => by rw [e] at hy; cases t_en _ hy); omega
  have hm2 : n + ((parts nm).length + ((rc.flatMap nC).length + ((vr.flatMap nV).length + ((rt.flatMap (nR N)).length + ((bd.flatMap (nS N)).length + 0))))) ≤ m := by simp only [nG, List.length_append] at hm; omega
  have J0 := Lib.hid (BxD.start C hlow (T := 35) (cs := #[.string nm, .slice bea be.length bec, .slice mia mi.length mic, .slice afa af.length afc, .slice rca rc.length rcc, .slice vra vr.length vrc, .slice rta rt.length rtc, .slice bda bd.length bdc, .slice ena en.length enc]) (ds := [.str nm, .row be, .row mi, .row af, .row rc, .row vr, .row rt, .row bd, .row en]) (zs := #[.string ⟨#[]⟩, .slice none 0 0, .slice none 0 0, .slice none 0 0, .slice none 0 0, .slice none 0 0, .slice none 0 0, .slice none 0 0, .slice none 0 0]) rfl (C.atLeast hI hm2) hW hv)
  have HG := Lib.hid hg
  have HLW := Lib.hid hW.size
  have HLOW := Lib.hid hlow
  have HOUT := Lib.hid hout
  have HGR := Lib.hid (fun (V : World) (k : Kept C.O C.hi W V) => k.ground hI hlow hW)
  have A_be := Lib.hid a_be
  have T_be := Lib.hid t_be
  have A_mi := Lib.hid a_mi
  have T_mi := Lib.hid t_mi
  have A_af := Lib.hid a_af
  have T_af := Lib.hid t_af
  have A_rc := Lib.hid a_rc
  have T_rc := Lib.hid t_rc
  have A_vr := Lib.hid a_vr
  have T_vr := Lib.hid t_vr
  have A_rt := Lib.hid a_rt
  have T_rt := Lib.hid t_rt
  have A_bd := Lib.hid a_bd
  have T_bd := Lib.hid t_bd
  have A_en := Lib.hid a_en
  have T_en := Lib.hid t_en
  clear hI hg hW hlow hout hm hm2 hv hx a_be a_mi a_af a_rc a_vr a_rt a_bd a_en t_be t_mi t_af t_rc t_vr t_rt t_bd t_en hC hV hR hS
  go_enter Tryz.func51, Tryz.ntmps51
  go_wp2_with fail
  refine (name_any C HG.out (n + ((rc.flatMap nC).length + ((vr.flatMap nV).length + ((rt.flatMap (nR N)).length + ((bd.flatMap (nS N)).length + 0))))) st nm _ (C.atLeast J0.out.j.i (by omega)) (by unfold lim; omega)).mono ?_
  rintro e W1 ⟨rfl, i1, k1⟩
  have Q1 := Lib.hid (J0.out.called k1 i1)
  have M1 := Lib.hid (nm_le C HOUT.out st nm (by omega))
  clear i1 k1
  generalize hq1 : C.nm st nm = q1 at *
  have HQ1 := Lib.hid hq1
  clear hq1
  have cA1 := box_cells Q1.out.j.bt
  have cB1 : ∀ i, W1.cell? ⟨W.heap.size + 1, i, none⟩ = (#[.string nm, .slice bea be.length bec, .slice mia mi.length mic, .slice afa af.length afc, .slice rca rc.length rcc, .slice vra vr.length vrc, .slice rta rt.length rtc, .slice bda bd.length bdc, .slice ena en.length enc] : Array Value)[i]? := box_cells Q1.out.j.bx
  have fB1 := frozen_box Q1.out.j.bx
  go_wp2_with fail
  have R1 := Lib.hid (show BxD C w0.heap.size (n + ((rc.flatMap nC).length + ((vr.flatMap nV).length + ((rt.flatMap (nR N)).length + ((bd.flatMap (nS N)).length + 0))))) W q1.2 35 [.string q1.1, .slice bea be.length bec, .slice mia mi.length mic, .slice afa af.length afc, .slice rca rc.length rcc, .slice vra vr.length vrc, .slice rta rt.length rtc, .slice bda bd.length bdc, .slice ena en.length enc] [.str q1.1, .row be, .row mi, .row af, .row rc, .row vr, .row rt, .row bd, .row en] (W1.setCell ⟨W.heap.size + 1, 0, none⟩ (.string q1.1)) from Q1.out.set HLW.out 0 (.string q1.1) (.str q1.1) (.str _ M1.out))
  refine (tnotes_any C w0 HLOW.out bea be.length bec be A_be.out T_be.out l_be (n + ((rc.flatMap nC).length + ((vr.flatMap nV).length + ((rt.flatMap (nR N)).length + ((bd.flatMap (nS N)).length + 0))))) q1.2 _ R1.out.j.i (HGR.out _ R1.out.j.kept)).mono ?_
  rintro e W2 ⟨p2, o2, rfl, d2, i2, k2⟩
  have Q2 := Lib.hid (R1.out.called k2 i2)
  have M2 := Lib.hid (d2.sub (newN_less R1.out.j.sz))
  clear i2 k2 d2 cA1 cB1 fB1
  have cA2 := box_cells Q2.out.j.bt
  have cB2 : ∀ i, W2.cell? ⟨W.heap.size + 1, i, none⟩ = (#[.string q1.1, .slice bea be.length bec, .slice mia mi.length mic, .slice afa af.length afc, .slice rca rc.length rcc, .slice vra vr.length vrc, .slice rta rt.length rtc, .slice bda bd.length bdc, .slice ena en.length enc] : Array Value)[i]? := box_cells Q2.out.j.bx
  have fB2 := frozen_box Q2.out.j.bx
  go_wp2_with fail
  have R2 := Lib.hid (show BxD C w0.heap.size (n + ((rc.flatMap nC).length + ((vr.flatMap nV).length + ((rt.flatMap (nR N)).length + ((bd.flatMap (nS N)).length + 0))))) W q1.2 35 [.string q1.1, .slice p2 be.length o2, .slice mia mi.length mic, .slice afa af.length afc, .slice rca rc.length rcc, .slice vra vr.length vrc, .slice rta rt.length rtc, .slice bda bd.length bdc, .slice ena en.length enc] [.str q1.1, .row be, .row mi, .row af, .row rc, .row vr, .row rt, .row bd, .row en] (W2.setCell ⟨W.heap.size + 1, 1, none⟩ (.slice p2 be.length o2)) from Q2.out.set HLW.out 1 (.slice p2 be.length o2) (.row be) M2.out)
  refine (tnotes_any C w0 HLOW.out mia mi.length mic mi A_mi.out T_mi.out l_mi (n + ((rc.flatMap nC).length + ((vr.flatMap nV).length + ((rt.flatMap (nR N)).length + ((bd.flatMap (nS N)).length + 0))))) q1.2 _ R2.out.j.i (HGR.out _ R2.out.j.kept)).mono ?_
  rintro e W3 ⟨p3, o3, rfl, d3, i3, k3⟩
  have Q3 := Lib.hid (R2.out.called k3 i3)
  have M3 := Lib.hid (d3.sub (newN_less R2.out.j.sz))
  clear i3 k3 d3 cA2 cB2 fB2
  have cA3 := box_cells Q3.out.j.bt
  have cB3 : ∀ i, W3.cell? ⟨W.heap.size + 1, i, none⟩ = (#[.string q1.1, .slice p2 be.length o2, .slice mia mi.length mic, .slice afa af.length afc, .slice rca rc.length rcc, .slice vra vr.length vrc, .slice rta rt.length rtc, .slice bda bd.length bdc, .slice ena en.length enc] : Array Value)[i]? := box_cells Q3.out.j.bx
  have fB3 := frozen_box Q3.out.j.bx
  go_wp2_with fail
  have R3 := Lib.hid (show BxD C w0.heap.size (n + ((rc.flatMap nC).length + ((vr.flatMap nV).length + ((rt.flatMap (nR N)).length + ((bd.flatMap (nS N)).length + 0))))) W q1.2 35 [.string q1.1, .slice p2 be.length o2, .slice p3 mi.length o3, .slice afa af.length afc, .slice rca rc.length rcc, .slice vra vr.length vrc, .slice rta rt.length rtc, .slice bda bd.length bdc, .slice ena en.length enc] [.str q1.1, .row be, .row mi, .row af, .row rc, .row vr, .row rt, .row bd, .row en] (W3.setCell ⟨W.heap.size + 1, 2, none⟩ (.slice p3 mi.length o3)) from Q3.out.set HLW.out 2 (.slice p3 mi.length o3) (.row mi) M3.out)
  refine (tnotes_any C w0 HLOW.out afa af.length afc af A_af.out T_af.out l_af (n + ((rc.flatMap nC).length + ((vr.flatMap nV).length + ((rt.flatMap (nR N)).length + ((bd.flatMap (nS N)).length + 0))))) q1.2 _ R3.out.j.i (HGR.out _ R3.out.j.kept)).mono ?_
  rintro e W4 ⟨p4, o4, rfl, d4, i4, k4⟩
  have Q4 := Lib.hid (R3.out.called k4 i4)
  have M4 := Lib.hid (d4.sub (newN_less R3.out.j.sz))
  clear i4 k4 d4 cA3 cB3 fB3
  have cA4 := box_cells Q4.out.j.bt
  have cB4 : ∀ i, W4.cell? ⟨W.heap.size + 1, i, none⟩ = (#[.string q1.1, .slice p2 be.length o2, .slice p3 mi.length o3, .slice afa af.length afc, .slice rca rc.length rcc, .slice vra vr.length vrc, .slice rta rt.length rtc, .slice bda bd.length bdc, .slice ena en.length enc] : Array Value)[i]? := box_cells Q4.out.j.bx
  have fB4 := frozen_box Q4.out.j.bx
  go_wp2_with fail
  have R4 := Lib.hid (show BxD C w0.heap.size (n + ((rc.flatMap nC).length + ((vr.flatMap nV).length + ((rt.flatMap (nR N)).length + ((bd.flatMap (nS N)).length + 0))))) W q1.2 35 [.string q1.1, .slice p2 be.length o2, .slice p3 mi.length o3, .slice p4 af.length o4, .slice rca rc.length rcc, .slice vra vr.length vrc, .slice rta rt.length rtc, .slice bda bd.length bdc, .slice ena en.length enc] [.str q1.1, .row be, .row mi, .row af, .row rc, .row vr, .row rt, .row bd, .row en] (W4.setCell ⟨W.heap.size + 1, 3, none⟩ (.slice p4 af.length o4)) from Q4.out.set HLW.out 3 (.slice p4 af.length o4) (.row af) M4.out)
  refine (turnC_any C w0 HLOW.out (tC C) nC rca rc.length rcc rc A_rc.out T_rc.out l_rc F_rc.out (fun y hy s => tC_len C s (T_rc.out y hy)) (n + ((vr.flatMap nV).length + ((rt.flatMap (nR N)).length + ((bd.flatMap (nS N)).length + 0)))) _ q1.2 (by omega) _ R4.out.j.i (HGR.out _ R4.out.j.kept)).mono ?_
  rintro e W5 ⟨p5, o5, rfl, d5, i5, k5⟩
  have Q5 := Lib.hid (R4.out.called k5 i5)
  have M5 := Lib.hid (d5.sub (newN_less R4.out.j.sz))
  clear i5 k5 d5 cA4 cB4 fB4
  generalize hq2 : turnL (tC C) q1.2 rc = q2 at *
  have HQ2 := Lib.hid hq2
  clear hq2
  have cA5 := box_cells Q5.out.j.bt
  have cB5 : ∀ i, W5.cell? ⟨W.heap.size + 1, i, none⟩ = (#[.string q1.1, .slice p2 be.length o2, .slice p3 mi.length o3, .slice p4 af.length o4, .slice rca rc.length rcc, .slice vra vr.length vrc, .slice rta rt.length rtc, .slice bda bd.length bdc, .slice ena en.length enc] : Array Value)[i]? := box_cells Q5.out.j.bx
  have fB5 := frozen_box Q5.out.j.bx
  go_wp2_with fail
  have R5 := Lib.hid (show BxD C w0.heap.size (n + ((vr.flatMap nV).length + ((rt.flatMap (nR N)).length + ((bd.flatMap (nS N)).length + 0)))) W q2.2 35 [.string q1.1, .slice p2 be.length o2, .slice p3 mi.length o3, .slice p4 af.length o4, .slice p5 q2.1.length o5, .slice vra vr.length vrc, .slice rta rt.length rtc, .slice bda bd.length bdc, .slice ena en.length enc] [.str q1.1, .row be, .row mi, .row af, .row q2.1, .row vr, .row rt, .row bd, .row en] (W5.setCell ⟨W.heap.size + 1, 4, none⟩ (.slice p5 q2.1.length o5)) from Q5.out.set HLW.out 4 (.slice p5 q2.1.length o5) (.row q2.1) M5.out)
  refine (turnV_any C w0 HLOW.out (tV C) nV vra vr.length vrc vr A_vr.out T_vr.out l_vr F_vr.out (fun y hy s => tV_len C s (T_vr.out y hy)) (n + ((rt.flatMap (nR N)).length + ((bd.flatMap (nS N)).length + 0))) _ q2.2 (by omega) _ R5.out.j.i (HGR.out _ R5.out.j.kept)).mono ?_
  rintro e W6 ⟨p6, o6, rfl, d6, i6, k6⟩
  have Q6 := Lib.hid (R5.out.called k6 i6)
  have M6 := Lib.hid (d6.sub (newN_less R5.out.j.sz))
  clear i6 k6 d6 cA5 cB5 fB5
  generalize hq3 : turnL (tV C) q2.2 vr = q3 at *
  have HQ3 := Lib.hid hq3
  clear hq3
  have cA6 := box_cells Q6.out.j.bt
  have cB6 : ∀ i, W6.cell? ⟨W.heap.size + 1, i, none⟩ = (#[.string q1.1, .slice p2 be.length o2, .slice p3 mi.length o3, .slice p4 af.length o4, .slice p5 q2.1.length o5, .slice vra vr.length vrc, .slice rta rt.length rtc, .slice bda bd.length bdc, .slice ena en.length enc] : Array Value)[i]? := box_cells Q6.out.j.bx
  have fB6 := frozen_box Q6.out.j.bx
  go_wp2_with fail
  have R6 := Lib.hid (show BxD C w0.heap.size (n + ((rt.flatMap (nR N)).length + ((bd.flatMap (nS N)).length + 0))) W q3.2 35 [.string q1.1, .slice p2 be.length o2, .slice p3 mi.length o3, .slice p4 af.length o4, .slice p5 q2.1.length o5, .slice p6 q3.1.length o6, .slice rta rt.length rtc, .slice bda bd.length bdc, .slice ena en.length enc] [.str q1.1, .row be, .row mi, .row af, .row q2.1, .row q3.1, .row rt, .row bd, .row en] (W6.setCell ⟨W.heap.size + 1, 5, none⟩ (.slice p6 q3.1.length o6)) from Q6.out.set HLW.out 5 (.slice p6 q3.1.length o6) (.row q3.1) M6.out)
  refine (turnR_any C w0 HLOW.out (tR C N) (nR N) rta rt.length rtc rt A_rt.out T_rt.out l_rt F_rt.out (fun y hy s => tR_len C N s (T_rt.out y hy)) (n + ((bd.flatMap (nS N)).length + 0)) _ q3.2 (by omega) _ R6.out.j.i (HGR.out _ R6.out.j.kept)).mono ?_
  rintro e W7 ⟨p7, o7, rfl, d7, i7, k7⟩
  have Q7 := Lib.hid (R6.out.called k7 i7)
  have M7 := Lib.hid (d7.sub (newN_less R6.out.j.sz))
  clear i7 k7 d7 cA6 cB6 fB6
  generalize hq4 : turnL (tR C N) q3.2 rt = q4 at *
  have HQ4 := Lib.hid hq4
  clear hq4
  have cA7 := box_cells Q7.out.j.bt
  have cB7 : ∀ i, W7.cell? ⟨W.heap.size + 1, i, none⟩ = (#[.string q1.1, .slice p2 be.length o2, .slice p3 mi.length o3, .slice p4 af.length o4, .slice p5 q2.1.length o5, .slice p6 q3.1.length o6, .slice rta rt.length rtc, .slice bda bd.length bdc, .slice ena en.length enc] : Array Value)[i]? := box_cells Q7.out.j.bx
  have fB7 := frozen_box Q7.out.j.bx
  go_wp2_with fail
  have R7 := Lib.hid (show BxD C w0.heap.size (n + ((bd.flatMap (nS N)).length + 0)) W q4.2 35 [.string q1.1, .slice p2 be.length o2, .slice p3 mi.length o3, .slice p4 af.length o4, .slice p5 q2.1.length o5, .slice p6 q3.1.length o6, .slice p7 q4.1.length o7, .slice bda bd.length bdc, .slice ena en.length enc] [.str q1.1, .row be, .row mi, .row af, .row q2.1, .row q3.1, .row q4.1, .row bd, .row en] (W7.setCell ⟨W.heap.size + 1, 6, none⟩ (.slice p7 q4.1.length o7)) from Q7.out.set HLW.out 6 (.slice p7 q4.1.length o7) (.row q4.1) M7.out)
  refine (turnS_any C w0 HLOW.out (tS C N) (nS N) bda bd.length bdc bd A_bd.out T_bd.out l_bd F_bd.out (fun y hy s => tS_len C N s (T_bd.out y hy)) (n + 0) _ q4.2 (by omega) _ R7.out.j.i (HGR.out _ R7.out.j.kept)).mono ?_
  rintro e W8 ⟨p8, o8, rfl, d8, i8, k8⟩
  have Q8 := Lib.hid (R7.out.called k8 i8)
  have M8 := Lib.hid (d8.sub (newN_less R7.out.j.sz))
  clear i8 k8 d8 cA7 cB7 fB7
  generalize hq5 : turnL (tS C N) q4.2 bd = q5 at *
  have HQ5 := Lib.hid hq5
  clear hq5
  have cA8 := box_cells Q8.out.j.bt
  have cB8 : ∀ i, W8.cell? ⟨W.heap.size + 1, i, none⟩ = (#[.string q1.1, .slice p2 be.length o2, .slice p3 mi.length o3, .slice p4 af.length o4, .slice p5 q2.1.length o5, .slice p6 q3.1.length o6, .slice p7 q4.1.length o7, .slice bda bd.length bdc, .slice ena en.length enc] : Array Value)[i]? := box_cells Q8.out.j.bx
  have fB8 := frozen_box Q8.out.j.bx
  go_wp2_with fail
  have R8 := Lib.hid (show BxD C w0.heap.size (n + 0) W q5.2 35 [.string q1.1, .slice p2 be.length o2, .slice p3 mi.length o3, .slice p4 af.length o4, .slice p5 q2.1.length o5, .slice p6 q3.1.length o6, .slice p7 q4.1.length o7, .slice p8 q5.1.length o8, .slice ena en.length enc] [.str q1.1, .row be, .row mi, .row af, .row q2.1, .row q3.1, .row q4.1, .row q5.1, .row en] (W8.setCell ⟨W.heap.size + 1, 7, none⟩ (.slice p8 q5.1.length o8)) from Q8.out.set HLW.out 7 (.slice p8 q5.1.length o8) (.row q5.1) M8.out)
  refine (tnotes_any C w0 HLOW.out ena en.length enc en A_en.out T_en.out l_en (n + 0) q5.2 _ R8.out.j.i (HGR.out _ R8.out.j.kept)).mono ?_
  rintro e W9 ⟨p9, o9, rfl, d9, i9, k9⟩
  have Q9 := Lib.hid (R8.out.called k9 i9)
  have M9 := Lib.hid (d9.sub (newN_less R8.out.j.sz))
  clear i9 k9 d9 cA8 cB8 fB8
  have cA9 := box_cells Q9.out.j.bt
  have cB9 : ∀ i, W9.cell? ⟨W.heap.size + 1, i, none⟩ = (#[.string q1.1, .slice p2 be.length o2, .slice p3 mi.length o3, .slice p4 af.length o4, .slice p5 q2.1.length o5, .slice p6 q3.1.length o6, .slice p7 q4.1.length o7, .slice p8 q5.1.length o8, .slice ena en.length enc] : Array Value)[i]? := box_cells Q9.out.j.bx
  have fB9 := frozen_box Q9.out.j.bx
  have R9 := Lib.hid (show BxD C w0.heap.size (n + 0) W q5.2 35 [.string q1.1, .slice p2 be.length o2, .slice p3 mi.length o3, .slice p4 af.length o4, .slice p5 q2.1.length o5, .slice p6 q3.1.length o6, .slice p7 q4.1.length o7, .slice p8 q5.1.length o8, .slice p9 en.length o9] [.str q1.1, .row be, .row mi, .row af, .row q2.1, .row q3.1, .row q4.1, .row q5.1, .row en] (W9.setCell ⟨W.heap.size + 1, 8, none⟩ (.slice p9 en.length o9)) from Q9.out.set HLW.out 8 (.slice p9 en.length o9) (.row en) M9.out)
  have CL := Lib.hid (show ∀ (i : Nat) (v : Value), ([.string q1.1, .slice p2 be.length o2, .slice p3 mi.length o3, .slice p4 af.length o4, .slice p5 q2.1.length o5, .slice p6 q3.1.length o6, .slice p7 q4.1.length o7, .slice p8 q5.1.length o8, .slice p9 en.length o9] : List Value)[i]? = some v → (W9.setCell ⟨W.heap.size + 1, 8, none⟩ (.slice p9 en.length o9)).cell? ⟨W.heap.size + 1, 0 + i, none⟩ = some v from fun i v hv => by rw [box_cells R9.out.j.bx, Nat.zero_add]; simpa using hv)
  obtain ⟨zs, z1, z2⟩ := R9.out.j.br
  have Z1 := Lib.hid (show zs.length = 9 from z1)
  have LN := Lib.hid (show ([.string q1.1, .slice p2 be.length o2, .slice p3 mi.length o3, .slice p4 af.length o4, .slice p5 q2.1.length o5, .slice p6 q3.1.length o6, .slice p7 q4.1.length o7, .slice p8 q5.1.length o8, .slice p9 en.length o9] : List Value).length = 9 from rfl)
  have ON := Lib.hid (show ∀ v ∈ ([.string q1.1, .slice p2 be.length o2, .slice p3 mi.length o3, .slice p4 af.length o4, .slice p5 q2.1.length o5, .slice p6 q3.1.length o6, .slice p7 q4.1.length o7, .slice p8 q5.1.length o8, .slice p9 en.length o9] : List Value), v.oneCell' = true from AllAt.one R9.out.d)
  have Z2 := Lib.hid z2
  clear z1 z2
  go_wp2_with (first
    | ((with_reducible refine wp_loadAgg (o := ⟨some 54, _, _, _, _, _⟩) rfl (.tmp 3) 35 rfl 9 Tryz.isAgg35 Tryz.sizeOf35 (W.heap.size + 1) 0 ?_ [.string q1.1, .slice p2 be.length o2, .slice p3 mi.length o3, .slice p4 af.length o4, .slice p5 q2.1.length o5, .slice p6 q3.1.length o6, .slice p7 q4.1.length o7, .slice p8 q5.1.length o8, .slice p9 en.length o9] LN.out CL.out ?_); rfl)
    | ((with_reducible refine wp_storeOld (o := ⟨none, .store 35 (.tmp 4) (.tmp 54), _, _, _, _⟩) rfl (.tmp 4) (.tmp 54) 35 rfl 9 Tryz.sizeOf35 (W.heap.size + 2) zs Z1.out 35 Z2.out ?_ [.string q1.1, .slice p2 be.length o2, .slice p3 mi.length o3, .slice p4 af.length o4, .slice p5 q2.1.length o5, .slice p6 q3.1.length o6, .slice p7 q4.1.length o7, .slice p8 q5.1.length o8, .slice p9 en.length o9] ?_ LN.out ON.out ?_); rfl; rfl))
  refine bodyPost_ret (v := .agg ⟨[.string q1.1, .slice p2 be.length o2, .slice p3 mi.length o3, .slice p4 af.length o4, .slice p5 q2.1.length o5, .slice p6 q3.1.length o6, .slice p7 q4.1.length o7, .slice p8 q5.1.length o8, .slice p9 en.length o9]⟩) ?_ rfl ?_
  · exact results_cell (i := 4) (b := W.heap.size + 2) Tryz.results51 Tryz.isAgg35 Tryz.sizeOf35 rfl rfl R9.out.j.last.1
  · have HO : tG C N st [.str nm, .row be, .row mi, .row af, .row rc, .row vr, .row rt, .row bd, .row en] = ([.str q1.1, .row be, .row mi, .row af, .row q2.1, .row q3.1, .row q4.1, .row q5.1, .row en], q5.2) := by
      show (([.str (C.nm st nm).1, .row be, .row mi, .row af, .row (turnL (tC C) (C.nm st nm).2 rc).1, .row (turnL (tV C) (turnL (tC C) (C.nm st nm).2 rc).2 vr).1, .row (turnL (tR C N) (turnL (tV C) (turnL (tC C) (C.nm st nm).2 rc).2 vr).2 rt).1, .row (turnL (tS C N) (turnL (tR C N) (turnL (tV C) (turnL (tC C) (C.nm st nm).2 rc).2 vr).2 rt).2 bd).1, .row en] : List D), (turnL (tS C N) (turnL (tR C N) (turnL (tV C) (turnL (tC C) (C.nm st nm).2 rc).2 vr).2 rt).2 bd).2) = _
      rw [HQ1.out, HQ2.out, HQ3.out, HQ4.out, HQ5.out]
    rw [HO]
    exact ⟨[.string q1.1, .slice p2 be.length o2, .slice p3 mi.length o3, .slice p4 af.length o4, .slice p5 q2.1.length o5, .slice p6 q3.1.length o6, .slice p7 q4.1.length o7, .slice p8 q5.1.length o8, .slice p9 en.length o9], rfl, R9.out.last HLW.out, R9.out.j.last.2.1, R9.out.j.last.2.2⟩
end Go.Proofs.YtciijpahjjoppaaGreat
end
section
namespace Go.Proofs.YtciijpahjjoppaaGreat
open Go.RowKit Go.Shelf Go.Deep

theorem mRow_sub : ∀ {x : List D} {l : List (List D)}, D.row l ∈ x → mRows l + 1 ≤ mRow x
  | d :: r, l, h => by
    rcases List.mem_cons.1 h with rfl | h
    · simp only [mRow, mD]; omega
    · have := mRow_sub h
      simp only [mRow]; omega
section
variable {σ : Type} {g : Nat} {c1 c2 : Value} (C : Clo σ g c1 c2) (hg : g = 50 ∨ g = 59) (hout : ∀ s x, x.size ≤ lim → (C.out s x).size ≤ lim) (w0 : World) (hlow : w0.heap.size ≤ C.low)
include hg hout hlow
theorem texpr_all : ∀ (N : Nat) (x : List D), ShE x → mRow x < N → mRow x ≤ 8000000 → TFn C w0 130 (tE C N) (nE N) x
  | 0, _, _, h, _ => absurd h (Nat.not_lt_zero _)
  | N + 1, x, hx, h, hb => tmE_any C hg hout w0 hlow N x hx hb fun l hl hs y hy => by
    have h1 := mRow_sub hl
    have h2 := mRows_mem hy
    exact texpr_all N y (hs y hy) (by omega) (by omega)
theorem tstmt_all : ∀ (N : Nat) (x : List D), ShS x → mRow x < N → mRow x ≤ 8000000 → TFn C w0 95 (tS C N) (nS N) x
  | 0, _, _, h, _ => absurd h (Nat.not_lt_zero _)
  | N + 1, x, hx, h, hb => tmS_any C hg hout w0 hlow N x hx hb (fun y hy hm => texpr_all C hg hout w0 hlow (N + 1) y hy (by omega) (by omega)) fun l hl hs y hy => by
    have h1 := mRow_sub hl
    have h2 := mRows_mem hy
    exact tstmt_all N y (hs y hy) (by omega) (by omega)
theorem tfield_all (x : List D) (hx : ShF x) (hb : mRow x ≤ 8000000) : TFn C w0 127 (tF C) nF x := tmF_any C hg hout w0 hlow x hx hb
theorem tvar_all (x : List D) (hx : ShV x) (hb : mRow x ≤ 8000000) : TFn C w0 91 (tV C) nV x := tmV_any C hg hout w0 hlow x hx hb
theorem tparam_all (x : List D) (hx : ShP x) (hb : mRow x ≤ 8000000) : TFn C w0 129 (tP C) nP x := tmP_any C hg hout w0 hlow x hx hb
theorem trec_all (x : List D) (hx : ShC x) (hb : mRow x ≤ 8000000) : TFn C w0 89 (tC C) nC x :=
  tmC_any C hg hout w0 hlow x hx hb fun y hy hm => tfield_all C hg hout w0 hlow y hy (by omega)
theorem troutine_all : ∀ (N : Nat) (x : List D), ShR x → mRow x < N → mRow x ≤ 8000000 → TFn C w0 93 (tR C N) (nR N) x
  | 0, _, _, h, _ => absurd h (Nat.not_lt_zero _)
  | N + 1, x, hx, h, hb => tmR_any C hg hout w0 hlow N x hx hb (fun y hy hm => tparam_all C hg hout w0 hlow y hy (by omega)) (fun y hy hm => tvar_all C hg hout w0 hlow y hy (by omega)) (fun l hl hs y hy => by
    have h1 := mRow_sub hl
    have h2 := mRows_mem hy
    exact troutine_all N y (hs y hy) (by omega) (by omega)) fun y hy hm => tstmt_all C hg hout w0 hlow (N + 1) y hy (by omega) (by omega)
theorem tprogram_all (N : Nat) (x : List D) (hx : ShG x) (h : mRow x < N) (hb : mRow x ≤ 8000000) : TFn C w0 51 (tG C N) (nG N) x :=
  tmG_any C hg hout w0 hlow N x hx hb (fun y hy hm => trec_all C hg hout w0 hlow y hy (by omega)) (fun y hy hm => tvar_all C hg hout w0 hlow y hy (by omega)) (fun y hy hm => troutine_all C hg hout w0 hlow N y hy (by omega) (by omega)) fun y hy hm => tstmt_all C hg hout w0 hlow N y hy (by omega) (by omega)
end
theorem flat_len {h : List D → List ByteArray} : ∀ (l : List (List D)), (∀ x ∈ l, (h x).length ≤ mRow x) → (l.flatMap h).length ≤ mRows l
  | [], _ => by simp
  | x :: l, hl => by
    have h1 := hl x (by simp)
    have h2 := flat_len l (fun y hy => hl y (by simp [hy]))
    rw [List.flatMap_cons, List.length_append]
    simp only [mRows]
    omega
theorem flat_sz {h : List D → List ByteArray} {B : Nat} : ∀ (l : List (List D)), (∀ x ∈ l, ∀ p ∈ h x, p.size ≤ mRow x) → mRows l ≤ B → ∀ p ∈ l.flatMap h, p.size ≤ B
  | [], _, _, p, hp => by simp at hp
  | x :: l, hl, hB, p, hp => by
    simp only [mRows] at hB
    rw [List.flatMap_cons, List.mem_append] at hp
    rcases hp with hp | hp
    · have := hl x (by simp) p hp; omega
    · exact flat_sz l (fun y hy => hl y (by simp [hy])) (by omega) p hp
theorem nF_ok {x : List D} (hx : ShF x) : (nF x).length ≤ mRow x ∧ ∀ p ∈ nF x, p.size ≤ mRow x := by
  cases hx with
  | mk m0 m1 nm kd s0 s1 =>
    have h1 := parts_len nm
    refine ⟨by simp only [nF, mRow, mD]; omega, fun p hp => ?_⟩
    have := parts_mem nm p hp
    simp only [mRow, mD]; omega
theorem nV_ok {x : List D} (hx : ShV x) : (nV x).length ≤ mRow x ∧ ∀ p ∈ nV x, p.size ≤ mRow x := by
  cases hx with
  | mk m0 m1 nm kd sz tn s0 s1 =>
    have h1 := parts_len nm
    have h2 := parts_len tn
    refine ⟨by simp only [nV, mRow, mD, List.length_append]; omega, fun p hp => ?_⟩
    simp only [mRow, mD]
    rcases List.mem_append.1 hp with hp | hp
    · have := parts_mem nm p hp; omega
    · have := parts_mem tn p hp; omega
theorem nP_ok {x : List D} (hx : ShP x) : (nP x).length ≤ mRow x ∧ ∀ p ∈ nP x, p.size ≤ mRow x := by
  cases hx with
  | mk nm kd sz tn md =>
    have h1 := parts_len nm
    have h2 := parts_len tn
    refine ⟨by simp only [nP, mRow, mD, List.length_append]; omega, fun p hp => ?_⟩
    simp only [mRow, mD]
    rcases List.mem_append.1 hp with hp | hp
    · have := parts_mem nm p hp; omega
    · have := parts_mem tn p hp; omega
theorem nC_ok {x : List D} (hx : ShC x) : (nC x).length ≤ mRow x ∧ ∀ p ∈ nC x, p.size ≤ mRow x := by
  cases hx with
  | mk m0 m1 nm fs en s0 s1 sf se =>
    have h1 := parts_len nm
    have h2 := flat_len (h := nF) fs fun y hy => (nF_ok (sf y hy)).1
    refine ⟨by simp only [nC, mRow, mD, List.length_append]; omega, fun p hp => ?_⟩
    simp only [mRow, mD]
    rcases List.mem_append.1 hp with hp | hp
    · have := parts_mem nm p hp; omega
    · have := flat_sz (h := nF) fs (fun y hy => (nF_ok (sf y hy)).2) (Nat.le_refl _) p hp; omega
theorem nE_ok : ∀ (n : Nat) {x : List D} (_ : ShE x), (nE n x).length ≤ mRow x ∧ ∀ p ∈ nE n x, p.size ≤ mRow x
  | 0, _, _ => ⟨Nat.zero_le _, fun p hp => by simp [nE] at hp⟩
  | n + 1, x, hx => by
    cases hx with
    | mk op k nm fd l sl =>
      have h1 := parts_len nm
      have h2 := parts_len fd
      have h3 := flat_len (h := nE n) l fun y hy => (nE_ok n (sl y hy)).1
      refine ⟨by simp only [nE, mRow, mD, List.length_append]; omega, fun p hp => ?_⟩
      simp only [mRow, mD]
      simp only [nE, List.mem_append] at hp
      rcases hp with hp | hp | hp
      · have := parts_mem nm p hp; omega
      · have := parts_mem fd p hp; omega
      · have := flat_sz (h := nE n) l (fun y hy => (nE_ok n (sl y hy)).2) (Nat.le_refl _) p hp; omega
set_option maxHeartbeats 4000000 in
theorem nS_ok : ∀ (n : Nat) {x : List D} (_ : ShS x), (nS n x).length ≤ mRow x ∧ ∀ p ∈ nS n x, p.size ≤ mRow x
  | 0, _, _ => ⟨Nat.zero_le _, fun p hp => by simp [nS] at hp⟩
  | n + 1, x, hx => by
    cases hx with
    | mk m0 m1 op nm pop pn pnm pfd pl ex dn mo bd el en e2 s0 s1 spl sex sbd sel sen se2 =>
      have h1 := parts_len nm
      have h2 := parts_len pnm
      have h3 := parts_len pfd
      have h4 := flat_len (h := nE n) pl fun y hy => (nE_ok n (spl y hy)).1
      have h5 := flat_len (h := nE (n + 1)) ex fun y hy => (nE_ok (n + 1) (sex y hy)).1
      have h6 := flat_len (h := nS n) bd fun y hy => (nS_ok n (sbd y hy)).1
      have h7 := flat_len (h := nS n) el fun y hy => (nS_ok n (sel y hy)).1
      refine ⟨by simp only [nS, mRow, mD, List.length_append]; omega, fun p hp => ?_⟩
      simp only [mRow, mD]
      simp only [nS, List.mem_append] at hp
      rcases hp with hp | hp | hp | hp | hp | hp | hp
      · have := parts_mem nm p hp; omega
      · have := parts_mem pnm p hp; omega
      · have := parts_mem pfd p hp; omega
      · have := flat_sz (h := nE n) pl (fun y hy => (nE_ok n (spl y hy)).2) (Nat.le_refl _) p hp; omega
      · have := flat_sz (h := nE (n + 1)) ex (fun y hy => (nE_ok (n + 1) (sex y hy)).2) (Nat.le_refl _) p hp; omega
      · have := flat_sz (h := nS n) bd (fun y hy => (nS_ok n (sbd y hy)).2) (Nat.le_refl _) p hp; omega
      · have := flat_sz (h := nS n) el (fun y hy => (nS_ok n (sel y hy)).2) (Nat.le_refl _) p hp; omega
theorem nR_ok : ∀ (n : Nat) {x : List D} (_ : ShR x), (nR n x).length ≤ mRow x ∧ ∀ p ∈ nR n x, p.size ≤ mRow x
  | 0, _, _ => ⟨Nat.zero_le _, fun p hp => by simp [nR] at hp⟩
  | n + 1, x, hx => by
    cases hx with
    | mk m0 m1 nm rs ps vr inn bd en s0 s1 sps svr sinn sbd sen =>
      have h1 := parts_len nm
      have h4 := flat_len (h := nP) ps fun y hy => (nP_ok (sps y hy)).1
      have h5 := flat_len (h := nV) vr fun y hy => (nV_ok (svr y hy)).1
      have h6 := flat_len (h := nR n) inn fun y hy => (nR_ok n (sinn y hy)).1
      have h7 := flat_len (h := nS (n + 1)) bd fun y hy => (nS_ok (n + 1) (sbd y hy)).1
      refine ⟨by simp only [nR, mRow, mD, List.length_append]; omega, fun p hp => ?_⟩
      simp only [mRow, mD]
      simp only [nR, List.mem_append] at hp
      rcases hp with hp | hp | hp | hp | hp
      · have := parts_mem nm p hp; omega
      · have := flat_sz (h := nP) ps (fun y hy => (nP_ok (sps y hy)).2) (Nat.le_refl _) p hp; omega
      · have := flat_sz (h := nV) vr (fun y hy => (nV_ok (svr y hy)).2) (Nat.le_refl _) p hp; omega
      · have := flat_sz (h := nR n) inn (fun y hy => (nR_ok n (sinn y hy)).2) (Nat.le_refl _) p hp; omega
      · have := flat_sz (h := nS (n + 1)) bd (fun y hy => (nS_ok (n + 1) (sbd y hy)).2) (Nat.le_refl _) p hp; omega
theorem nG_ok (n : Nat) {x : List D} (hx : ShG x) : (nG n x).length ≤ mRow x ∧ ∀ p ∈ nG n x, p.size ≤ mRow x := by
  cases hx with
  | mk nm be mi af rc vr rt bd en sbe smi saf src svr srt sbd sen =>
    have h1 := parts_len nm
    have h4 := flat_len (h := nC) rc fun y hy => (nC_ok (src y hy)).1
    have h5 := flat_len (h := nV) vr fun y hy => (nV_ok (svr y hy)).1
    have h6 := flat_len (h := nR n) rt fun y hy => (nR_ok n (srt y hy)).1
    have h7 := flat_len (h := nS n) bd fun y hy => (nS_ok n (sbd y hy)).1
    refine ⟨by simp only [nG, mRow, mD, List.length_append]; omega, fun p hp => ?_⟩
    simp only [mRow, mD]
    simp only [nG, List.mem_append] at hp
    rcases hp with hp | hp | hp | hp | hp
    · have := parts_mem nm p hp; omega
    · have := flat_sz (h := nC) rc (fun y hy => (nC_ok (src y hy)).2) (Nat.le_refl _) p hp; omega
    · have := flat_sz (h := nV) vr (fun y hy => (nV_ok (svr y hy)).2) (Nat.le_refl _) p hp; omega
    · have := flat_sz (h := nR n) rt (fun y hy => (nR_ok n (srt y hy)).2) (Nat.le_refl _) p hp; omega
    · have := flat_sz (h := nS n) bd (fun y hy => (nS_ok n (sbd y hy)).2) (Nat.le_refl _) p hp; omega
end Go.Proofs.YtciijpahjjoppaaGreat
end
section
namespace Go.Proofs.YtciijpahjjoppaaGreat
open Go.RowKit Go.Shelf Go.Deep

theorem splitD_app : ∀ (x r : List UInt8), (36 : UInt8) ∉ x → splitD (x ++ 36 :: r) = x :: splitD r
  | [], r, _ => by simp [splitD]
  | c :: x, r, h => by
    have hc : c ≠ 36 := fun e => h (by simp [e])
    have ih := splitD_app x r (fun e => h (by simp [e]))
    rw [List.cons_append, splitD, if_neg hc, ih]
theorem splitD_no : ∀ (x : List UInt8), (36 : UInt8) ∉ x → splitD x = [x]
  | [], _ => rfl
  | c :: x, h => by
    have hc : c ≠ 36 := fun e => h (by simp [e])
    rw [splitD, if_neg hc, splitD_no x (fun e => h (by simp [e]))]
theorem join_two (x y : List UInt8) (r : List (List UInt8)) : Lib.join (x :: y :: r) [36] = x ++ 36 :: Lib.join (y :: r) [36] := by
  rw [Lib.join_cons, Lib.join_cons]
  simp [Lib.joinTail]
theorem join_one (x : List UInt8) : Lib.join [x] [36] = x := by
  rw [Lib.join_cons]
  simp [Lib.joinTail]
theorem split_join : ∀ (l : List (List UInt8)), l ≠ [] → (∀ x ∈ l, (36 : UInt8) ∉ x) → splitD (Lib.join l [36]) = l
  | [], h, _ => absurd rfl h
  | [x], _, h => by rw [join_one, splitD_no x (h x (by simp))]
  | x :: y :: r, _, h => by
    rw [join_two, splitD_app x _ (h x (by simp)), split_join (y :: r) (by simp) (fun z hz => h z (by simp [hz]))]
theorem join_split : ∀ (l : List UInt8), Lib.join (splitD l) [36] = l
  | [] => by rw [splitD, join_one]
  | c :: r => by
    have ih := join_split r
    rw [splitD]
    split
    · rename_i hc
      cases e : splitD r with
      | nil => exact absurd e (splitD_ne r)
      | cons h t => rw [e] at ih; rw [join_two, ih, hc]; rfl
    · cases e : splitD r with
      | nil => exact absurd e (splitD_ne r)
      | cons h t =>
        rw [e] at ih
        cases t with
        | nil => rw [join_one] at ih ⊢; rw [ih]
        | cons h2 t2 => rw [join_two] at ih ⊢; rw [← ih]; rfl
theorem splitD_out : ∀ (l : List UInt8), ∀ p ∈ splitD l, (36 : UInt8) ∉ p
  | [], p, hp => by simp [splitD] at hp; simp [hp]
  | c :: r, p, hp => by
    have ih := splitD_out r
    rw [splitD] at hp
    split at hp
    · rcases List.mem_cons.1 hp with rfl | hp
      · simp
      · exact ih p hp
    · rename_i hc
      cases e : splitD r with
      | nil => exact absurd e (splitD_ne r)
      | cons h t =>
        rw [e] at hp ih
        rcases List.mem_cons.1 hp with rfl | hp
        · intro hm
          rcases List.mem_cons.1 hm with hm | hm
          · exact hc hm.symm
          · exact ih h (by simp) hm
        · exact ih p (by simp [hp])
/-- A text without the sign between parts. -/
def NoD (x : ByteArray) : Prop := (36 : UInt8) ∉ x.data.toList
theorem parts_no (s : ByteArray) : ∀ p ∈ parts s, NoD p := fun p hp => by
  obtain ⟨q, hq, rfl⟩ := List.mem_map.1 hp
  unfold NoD
  rw [ba_list]
  exact splitD_out _ q hq
theorem joinD_parts (s : ByteArray) : joinD (parts s) = s := by
  unfold joinD parts
  rw [List.map_map]
  have e : ((fun (x : ByteArray) => x.data.toList) ∘ ba) = id := by funext l; exact ba_list l
  rw [e, List.map_id, join_split]
theorem parts_joinD (l : List ByteArray) (h : l ≠ []) (hn : ∀ p ∈ l, NoD p) : parts (joinD l) = l := by
  unfold joinD parts
  show (splitD (Lib.join (l.map (·.data.toList)) [36])).map ba = l
  rw [split_join _ (by simpa using h) (fun x hx => by obtain ⟨p, hp, rfl⟩ := List.mem_map.1 hx; exact hn p hp), List.map_map]
  have e : (ba ∘ fun (x : ByteArray) => x.data.toList) = id := by funext s; exact ba_data s
  rw [e, List.map_id]
def mapName (h : ByteArray → ByteArray) (s : ByteArray) : ByteArray := joinD ((parts s).map h)
theorem mapName_parts (h : ByteArray → ByteArray) (s : ByteArray) (hn : ∀ p ∈ parts s, NoD (h p)) : parts (mapName h s) = (parts s).map h :=
  parts_joinD _ (by simp [parts_ne]) fun p hp => by obtain ⟨q, hq, rfl⟩ := List.mem_map.1 hp; exact hn q hq
theorem mapName_back (h h' : ByteArray → ByteArray) (s : ByteArray) (hn : ∀ p ∈ parts s, NoD (h p)) (hb : ∀ p ∈ parts s, h' (h p) = p) : mapName h' (mapName h s) = s := by
  unfold mapName
  rw [show parts (joinD ((parts s).map h)) = (parts s).map h from mapName_parts h s hn, List.map_map]
  have e : (parts s).map (h' ∘ h) = parts s := by
    conv => rhs; rw [← List.map_id (parts s)]
    exact List.map_congr_left fun p hp => hb p hp
  rw [e, joinD_parts]

section
variable (f : ByteArray → ByteArray)
def mF : List D → List D
  | [.row m0, .row m1, .str nm, .int kd] => [.row m0, .row m1, .str (f nm), .int kd]
  | x => x
def mV : List D → List D
  | [.row m0, .row m1, .str nm, .int kd, .int sz, .str tn] => [.row m0, .row m1, .str (f nm), .int kd, .int sz, .str (f tn)]
  | x => x
def mP : List D → List D
  | [.str nm, .int kd, .int sz, .str tn, .int md] => [.str (f nm), .int kd, .int sz, .str (f tn), .int md]
  | x => x
def mC : List D → List D
  | [.row m0, .row m1, .str nm, .row fs, .row en] => [.row m0, .row m1, .str (f nm), .row (fs.map (mF f)), .row en]
  | x => x
def mE : Nat → List D → List D
  | 0, x => x
  | n + 1, [.int op, .int k, .str nm, .str fd, .row l] => [.int op, .int k, .str (f nm), .str (f fd), .row (l.map (mE n))]
  | _ + 1, x => x
def mS : Nat → List D → List D
  | 0, x => x
  | n + 1, [.row m0, .row m1, .int op, .str nm, .int pop, .int pn, .str pnm, .str pfd, .row pl, .row ex, .bool dn, .bool mo, .row bd, .row el, .row en, .row e2] =>
    [.row m0, .row m1, .int op, .str (f nm), .int pop, .int pn, .str (f pnm), .str (f pfd), .row (pl.map (mE f n)), .row (ex.map (mE f (n + 1))), .bool dn, .bool mo, .row (bd.map (mS n)), .row (el.map (mS n)), .row en, .row e2]
  | _ + 1, x => x
def mR : Nat → List D → List D
  | 0, x => x
  | n + 1, [.row m0, .row m1, .str nm, .int rs, .row ps, .row vr, .row inn, .row bd, .row en] =>
    [.row m0, .row m1, .str (f nm), .int rs, .row (ps.map (mP f)), .row (vr.map (mV f)), .row (inn.map (mR n)), .row (bd.map (mS f (n + 1))), .row en]
  | _ + 1, x => x
def mG (n : Nat) : List D → List D
  | [.str nm, .row be, .row mi, .row af, .row rc, .row vr, .row rt, .row bd, .row en] => [.str (f nm), .row be, .row mi, .row af, .row (rc.map (mC f)), .row (vr.map (mV f)), .row (rt.map (mR f n)), .row (bd.map (mS f n)), .row en]
  | x => x
end
theorem turnU (t : Unit → List D → List D × Unit) : ∀ (l : List (List D)), turnL t () l = (l.map fun x => (t () x).1, ())
  | [] => rfl
  | x :: l => by rw [turnL, turnU t l]; rfl
section
variable (r : RenB)
theorem rn (s : ByteArray) : (renClo r).nm () s = (renName r.ps s, ()) := ren_nm r s
theorem tF_map {x : List D} (hx : ShF x) : (tF (renClo r) () x).1 = mF (renName r.ps) x := by cases hx; simp only [tF, mF, rn]
theorem tV_map {x : List D} (hx : ShV x) : (tV (renClo r) () x).1 = mV (renName r.ps) x := by cases hx; simp only [tV, mV, rn]
theorem tP_map {x : List D} (hx : ShP x) : (tP (renClo r) () x).1 = mP (renName r.ps) x := by cases hx; simp only [tP, mP, rn]
theorem map_eq {α β : Type} {h k : α → β} {l : List α} (e : ∀ x ∈ l, h x = k x) : l.map h = l.map k := List.map_congr_left e
theorem tC_map {x : List D} (hx : ShC x) : (tC (renClo r) () x).1 = mC (renName r.ps) x := by
  cases hx with
  | mk m0 m1 nm fs en s0 s1 sf se => simp only [tC, mC, rn, turnU, map_eq fun y hy => tF_map r (sf y hy)]
theorem tE_map : ∀ (n : Nat) {x : List D} (_ : ShE x), (tE (renClo r) n () x).1 = mE (renName r.ps) n x
  | 0, _, _ => rfl
  | n + 1, x, hx => by
    cases hx with
    | mk op k nm fd l sl => simp only [tE, mE, rn, turnU, map_eq fun y hy => tE_map n (sl y hy)]
theorem tS_map : ∀ (n : Nat) {x : List D} (_ : ShS x), (tS (renClo r) n () x).1 = mS (renName r.ps) n x
  | 0, _, _ => rfl
  | n + 1, x, hx => by
    cases hx with
    | mk m0 m1 op nm pop pn pnm pfd pl ex dn mo bd el en e2 s0 s1 spl sex sbd sel sen se2 =>
      simp only [tS, tSx, mS, rn, turnU, map_eq fun y hy => tE_map r n (spl y hy), map_eq fun y hy => tE_map r (n + 1) (sex y hy), map_eq fun y hy => tS_map n (sbd y hy), map_eq fun y hy => tS_map n (sel y hy)]
theorem tR_map : ∀ (n : Nat) {x : List D} (_ : ShR x), (tR (renClo r) n () x).1 = mR (renName r.ps) n x
  | 0, _, _ => rfl
  | n + 1, x, hx => by
    cases hx with
    | mk m0 m1 nm rs ps vr inn bd en s0 s1 sps svr sinn sbd sen =>
      simp only [tR, mR, rn, turnU, map_eq fun y hy => tP_map r (sps y hy), map_eq fun y hy => tV_map r (svr y hy), map_eq fun y hy => tR_map n (sinn y hy), map_eq fun y hy => tS_map r (n + 1) (sbd y hy)]
theorem tG_map (n : Nat) {x : List D} (hx : ShG x) : (tG (renClo r) n () x).1 = mG (renName r.ps) n x := by
  cases hx with
  | mk nm be mi af rc vr rt bd en sbe smi saf src svr srt sbd sen =>
    simp only [tG, mG, rn, turnU, map_eq fun y hy => tC_map r (src y hy), map_eq fun y hy => tV_map r (svr y hy), map_eq fun y hy => tR_map r n (srt y hy), map_eq fun y hy => tS_map r n (sbd y hy)]
end
end Go.Proofs.YtciijpahjjoppaaGreat
end
section
namespace Go.Proofs.YtciijpahjjoppaaGreat
open Go.RowKit Go.Shelf Go.Deep

theorem map_sh {S : List D → Prop} {h : List D → List D} {l : List (List D)} (hs : ∀ y ∈ l, S (h y)) : ∀ z ∈ l.map h, S z := fun z hz => by
  obtain ⟨y, hy, rfl⟩ := List.mem_map.1 hz
  exact hs y hy
theorem mRows_map_le {h : List D → List D} : ∀ {l : List (List D)}, (∀ y ∈ l, mRow (h y) ≤ 5 * mRow y) → mRows (l.map h) ≤ 5 * mRows l
  | [], _ => by simp [mRows]
  | x :: l, hl => by
    have h1 := hl x (by simp)
    have h2 := mRows_map_le (l := l) (fun y hy => hl y (by simp [hy]))
    simp only [List.map_cons, mRows]
    omega
theorem flat_map {h : ByteArray → ByteArray} {k k' : List D → List ByteArray} {q : List D → List D} : ∀ {l : List (List D)}, (∀ y ∈ l, k' (q y) = (k y).map h) → (l.map q).flatMap k' = (l.flatMap k).map h
  | [], _ => rfl
  | x :: l, hl => by
    rw [List.map_cons, List.flatMap_cons, List.flatMap_cons, List.map_append, hl x (by simp), flat_map fun y hy => hl y (by simp [hy])]
theorem back_map {q q' : List D → List D} : ∀ {l : List (List D)}, (∀ y ∈ l, q' (q y) = y) → (l.map q).map q' = l
  | [], _ => rfl
  | x :: l, hl => by
    rw [List.map_cons, List.map_cons, hl x (by simp), back_map fun y hy => hl y (by simp [hy])]
theorem in_flat {k : List D → List ByteArray} {l : List (List D)} {y : List D} (hy : y ∈ l) {p : ByteArray} (hp : p ∈ k y) : p ∈ l.flatMap k := List.mem_flatMap.2 ⟨y, hy, hp⟩
theorem lt_map {q : List D → List D} {l : List (List D)} {y : List D} (hy : y ∈ l) : mRow (q y) ≤ mRows (l.map q) := mRows_mem (List.mem_map_of_mem hy)
section
variable (f : ByteArray → ByteArray)
theorem mF_sh {x : List D} (hx : ShF x) : ShF (mF f x) := by cases hx with | mk m0 m1 nm kd a b => exact .mk m0 m1 _ kd a b
theorem mV_sh {x : List D} (hx : ShV x) : ShV (mV f x) := by cases hx with | mk m0 m1 nm kd sz tn a b => exact .mk m0 m1 _ kd sz _ a b
theorem mP_sh {x : List D} (hx : ShP x) : ShP (mP f x) := by cases hx with | mk nm kd sz tn md => exact .mk _ kd sz _ md
theorem mC_sh {x : List D} (hx : ShC x) : ShC (mC f x) := by cases hx with | mk m0 m1 nm fs en a b c d => exact .mk m0 m1 _ _ en a b (map_sh fun y hy => mF_sh f (c y hy)) d
theorem mE_sh : ∀ (n : Nat) {x : List D} (_ : ShE x), ShE (mE f n x)
  | 0, _, hx => hx
  | n + 1, _, hx => by cases hx with | mk op k nm fd l sl => exact .mk op k _ _ _ (map_sh fun y hy => mE_sh n (sl y hy))
theorem mS_sh : ∀ (n : Nat) {x : List D} (_ : ShS x), ShS (mS f n x)
  | 0, _, hx => hx
  | n + 1, _, hx => by
    cases hx with
    | mk m0 m1 op nm pop pn pnm pfd pl ex dn mo bd el en e2 s0 s1 spl sex sbd sel sen se2 =>
      exact .mk m0 m1 op _ pop pn _ _ _ _ dn mo _ _ en e2 s0 s1 (map_sh fun y hy => mE_sh f n (spl y hy)) (map_sh fun y hy => mE_sh f (n + 1) (sex y hy)) (map_sh fun y hy => mS_sh n (sbd y hy)) (map_sh fun y hy => mS_sh n (sel y hy)) sen se2
theorem mR_sh : ∀ (n : Nat) {x : List D} (_ : ShR x), ShR (mR f n x)
  | 0, _, hx => hx
  | n + 1, _, hx => by
    cases hx with
    | mk m0 m1 nm rs ps vr inn bd en s0 s1 sps svr sinn sbd sen =>
      exact .mk m0 m1 _ rs _ _ _ _ en s0 s1 (map_sh fun y hy => mP_sh f (sps y hy)) (map_sh fun y hy => mV_sh f (svr y hy)) (map_sh fun y hy => mR_sh n (sinn y hy)) (map_sh fun y hy => mS_sh f (n + 1) (sbd y hy)) sen
theorem mG_sh (n : Nat) {x : List D} (hx : ShG x) : ShG (mG f n x) := by
  cases hx with
  | mk nm be mi af rc vr rt bd en sbe smi saf src svr srt sbd sen =>
    exact .mk _ be mi af _ _ _ _ en sbe smi saf (map_sh fun y hy => mC_sh f (src y hy)) (map_sh fun y hy => mV_sh f (svr y hy)) (map_sh fun y hy => mR_sh f n (srt y hy)) (map_sh fun y hy => mS_sh f n (sbd y hy)) sen
theorem mF_sz (hf : ∀ s : ByteArray, (f s).size + 1 ≤ 5 * (s.size + 1)) {x : List D} (hx : ShF x) : mRow (mF f x) ≤ 5 * mRow x := by
  cases hx with | mk m0 m1 nm kd a b => have h1 := hf nm; simp only [mF, mRow, mD]; omega
theorem mV_sz (hf : ∀ s : ByteArray, (f s).size + 1 ≤ 5 * (s.size + 1)) {x : List D} (hx : ShV x) : mRow (mV f x) ≤ 5 * mRow x := by
  cases hx with | mk m0 m1 nm kd sz tn a b => have h1 := hf nm; have h2 := hf tn; simp only [mV, mRow, mD]; omega
theorem mP_sz (hf : ∀ s : ByteArray, (f s).size + 1 ≤ 5 * (s.size + 1)) {x : List D} (hx : ShP x) : mRow (mP f x) ≤ 5 * mRow x := by
  cases hx with | mk nm kd sz tn md => have h1 := hf nm; have h2 := hf tn; simp only [mP, mRow, mD]; omega
theorem mC_sz (hf : ∀ s : ByteArray, (f s).size + 1 ≤ 5 * (s.size + 1)) {x : List D} (hx : ShC x) : mRow (mC f x) ≤ 5 * mRow x := by
  cases hx with | mk m0 m1 nm fs en a b c d => have h1 := hf nm; have h2 := mRows_map_le (h := mF f) (l := fs) fun y hy => mF_sz f hf (c y hy); simp only [mC, mRow, mD]; omega
theorem mE_sz (hf : ∀ s : ByteArray, (f s).size + 1 ≤ 5 * (s.size + 1)) : ∀ (n : Nat) {x : List D} (_ : ShE x), mRow (mE f n x) ≤ 5 * mRow x
  | 0, _, _ => by unfold mE; omega
  | n + 1, _, hx => by cases hx with | mk op k nm fd l sl => have h1 := hf nm; have h2 := hf fd; have h3 := mRows_map_le (h := mE f n) (l := l) fun y hy => mE_sz hf n (sl y hy); simp only [mE, mRow, mD]; omega
set_option maxHeartbeats 4000000 in
theorem mS_sz (hf : ∀ s : ByteArray, (f s).size + 1 ≤ 5 * (s.size + 1)) : ∀ (n : Nat) {x : List D} (_ : ShS x), mRow (mS f n x) ≤ 5 * mRow x
  | 0, _, _ => by unfold mS; omega
  | n + 1, _, hx => by
    cases hx with
    | mk m0 m1 op nm pop pn pnm pfd pl ex dn mo bd el en e2 s0 s1 spl sex sbd sel sen se2 =>
      have h1 := hf nm
      have h2 := hf pnm
      have h3 := hf pfd
      have h4 := mRows_map_le (h := mE f n) (l := pl) fun y hy => mE_sz f hf n (spl y hy)
      have h5 := mRows_map_le (h := mE f (n + 1)) (l := ex) fun y hy => mE_sz f hf (n + 1) (sex y hy)
      have h6 := mRows_map_le (h := mS f n) (l := bd) fun y hy => mS_sz hf n (sbd y hy)
      have h7 := mRows_map_le (h := mS f n) (l := el) fun y hy => mS_sz hf n (sel y hy)
      simp only [mS, mRow, mD]
      omega
theorem mR_sz (hf : ∀ s : ByteArray, (f s).size + 1 ≤ 5 * (s.size + 1)) : ∀ (n : Nat) {x : List D} (_ : ShR x), mRow (mR f n x) ≤ 5 * mRow x
  | 0, _, _ => by unfold mR; omega
  | n + 1, _, hx => by
    cases hx with
    | mk m0 m1 nm rs ps vr inn bd en s0 s1 sps svr sinn sbd sen =>
      have h1 := hf nm
      have h4 := mRows_map_le (h := mP f) (l := ps) fun y hy => mP_sz f hf (sps y hy)
      have h5 := mRows_map_le (h := mV f) (l := vr) fun y hy => mV_sz f hf (svr y hy)
      have h6 := mRows_map_le (h := mR f n) (l := inn) fun y hy => mR_sz hf n (sinn y hy)
      have h7 := mRows_map_le (h := mS f (n + 1)) (l := bd) fun y hy => mS_sz f hf (n + 1) (sbd y hy)
      simp only [mR, mRow, mD]
      omega
theorem mG_sz (hf : ∀ s : ByteArray, (f s).size + 1 ≤ 5 * (s.size + 1)) (n : Nat) {x : List D} (hx : ShG x) : mRow (mG f n x) ≤ 5 * mRow x := by
  cases hx with
  | mk nm be mi af rc vr rt bd en sbe smi saf src svr srt sbd sen =>
    have h1 := hf nm
    have h4 := mRows_map_le (h := mC f) (l := rc) fun y hy => mC_sz f hf (src y hy)
    have h5 := mRows_map_le (h := mV f) (l := vr) fun y hy => mV_sz f hf (svr y hy)
    have h6 := mRows_map_le (h := mR f n) (l := rt) fun y hy => mR_sz f hf n (srt y hy)
    have h7 := mRows_map_le (h := mS f n) (l := bd) fun y hy => mS_sz f hf n (sbd y hy)
    simp only [mG, mRow, mD]
    omega
variable (h : ByteArray → ByteArray)
theorem mF_nm {x : List D} (hx : ShF x) (hp : ∀ s, (∀ p ∈ parts s, p ∈ nF x) → parts (f s) = (parts s).map h) : nF (mF f x) = (nF x).map h := by
  cases hx with | mk m0 m1 nm kd a b => exact hp nm fun p hp => hp
theorem mV_nm {x : List D} (hx : ShV x) (hp : ∀ s, (∀ p ∈ parts s, p ∈ nV x) → parts (f s) = (parts s).map h) : nV (mV f x) = (nV x).map h := by
  cases hx with | mk m0 m1 nm kd sz tn a b => simp only [mV, nV, List.map_append]; rw [hp nm fun p h => List.mem_append.2 (.inl h), hp tn fun p h => List.mem_append.2 (.inr h)]
theorem mP_nm {x : List D} (hx : ShP x) (hp : ∀ s, (∀ p ∈ parts s, p ∈ nP x) → parts (f s) = (parts s).map h) : nP (mP f x) = (nP x).map h := by
  cases hx with | mk nm kd sz tn md => simp only [mP, nP, List.map_append]; rw [hp nm fun p h => List.mem_append.2 (.inl h), hp tn fun p h => List.mem_append.2 (.inr h)]
theorem mC_nm {x : List D} (hx : ShC x) (hp : ∀ s, (∀ p ∈ parts s, p ∈ nC x) → parts (f s) = (parts s).map h) : nC (mC f x) = (nC x).map h := by
  cases hx with
  | mk m0 m1 nm fs en a b c d =>
    simp only [mC, nC, List.map_append]
    rw [hp nm fun p h => List.mem_append.2 (.inl h), flat_map (k := nF) (k' := nF) (q := mF f) (h := h) fun y hy => mF_nm f h (c y hy) fun s hs => hp s fun p h1 => List.mem_append.2 (.inr (in_flat hy (hs p h1)))]
theorem mE_nm : ∀ (n n2 : Nat) {x : List D} (_ : ShE x) (_ : mRow x < n) (_ : mRow (mE f n x) < n2) (_ : ∀ s, (∀ p ∈ parts s, p ∈ nE n x) → parts (f s) = (parts s).map h), nE n2 (mE f n x) = (nE n x).map h
  | 0, _, _, _, h1, _, _ => absurd h1 (Nat.not_lt_zero _)
  | _ + 1, 0, _, _, _, h2, _ => absurd h2 (Nat.not_lt_zero _)
  | n + 1, n2 + 1, x, hx, h1, h2, hp => by
    cases hx with
    | mk op k nm fd l sl =>
      simp only [mE, mRow, mD] at h1 h2
      simp only [mE, nE, List.map_append]
      rw [hp nm fun p h => by simp [nE, h], hp fd fun p h => by simp [nE, h], flat_map (k := nE n) (k' := nE n2) (q := mE f n) (h := h) fun y hy => mE_nm n n2 (sl y hy) (by have := mRows_mem hy; omega) (by have := lt_map (q := mE f n) hy; omega) fun s hs => hp s fun p h1 => by
        have := in_flat hy (hs p h1)
        simp [nE]; exact .inr (.inr (by simpa using this))]
set_option maxHeartbeats 4000000 in
theorem mS_nm : ∀ (n n2 : Nat) {x : List D} (_ : ShS x) (_ : mRow x < n) (_ : mRow (mS f n x) < n2) (_ : ∀ s, (∀ p ∈ parts s, p ∈ nS n x) → parts (f s) = (parts s).map h), nS n2 (mS f n x) = (nS n x).map h
  | 0, _, _, _, h1, _, _ => absurd h1 (Nat.not_lt_zero _)
  | _ + 1, 0, _, _, _, h2, _ => absurd h2 (Nat.not_lt_zero _)
  | n + 1, n2 + 1, x, hx, h1, h2, hp => by
    cases hx with
    | mk m0 m1 op nm pop pn pnm pfd pl ex dn mo bd el en e2 s0 s1 spl sex sbd sel sen se2 =>
      simp only [mS, mRow, mD] at h1 h2
      have i1 : ∀ p ∈ parts nm, p ∈ nS (n + 1) [.row m0, .row m1, .int op, .str nm, .int pop, .int pn, .str pnm, .str pfd, .row pl, .row ex, .bool dn, .bool mo, .row bd, .row el, .row en, .row e2] := fun p h => by simp only [nS, List.mem_append]; exact .inl h
      have i2 : ∀ p ∈ parts pnm, p ∈ nS (n + 1) [.row m0, .row m1, .int op, .str nm, .int pop, .int pn, .str pnm, .str pfd, .row pl, .row ex, .bool dn, .bool mo, .row bd, .row el, .row en, .row e2] := fun p h => by simp only [nS, List.mem_append]; exact .inr (.inl h)
      have i3 : ∀ p ∈ parts pfd, p ∈ nS (n + 1) [.row m0, .row m1, .int op, .str nm, .int pop, .int pn, .str pnm, .str pfd, .row pl, .row ex, .bool dn, .bool mo, .row bd, .row el, .row en, .row e2] := fun p h => by simp only [nS, List.mem_append]; exact .inr (.inr (.inl h))
      have i4 : ∀ p ∈ pl.flatMap (nE n), p ∈ nS (n + 1) [.row m0, .row m1, .int op, .str nm, .int pop, .int pn, .str pnm, .str pfd, .row pl, .row ex, .bool dn, .bool mo, .row bd, .row el, .row en, .row e2] := fun p h => by simp only [nS, List.mem_append]; exact .inr (.inr (.inr (.inl h)))
      have i5 : ∀ p ∈ ex.flatMap (nE (n + 1)), p ∈ nS (n + 1) [.row m0, .row m1, .int op, .str nm, .int pop, .int pn, .str pnm, .str pfd, .row pl, .row ex, .bool dn, .bool mo, .row bd, .row el, .row en, .row e2] := fun p h => by simp only [nS, List.mem_append]; exact .inr (.inr (.inr (.inr (.inl h))))
      have i6 : ∀ p ∈ bd.flatMap (nS n), p ∈ nS (n + 1) [.row m0, .row m1, .int op, .str nm, .int pop, .int pn, .str pnm, .str pfd, .row pl, .row ex, .bool dn, .bool mo, .row bd, .row el, .row en, .row e2] := fun p h => by simp only [nS, List.mem_append]; exact .inr (.inr (.inr (.inr (.inr (.inl h)))))
      have i7 : ∀ p ∈ el.flatMap (nS n), p ∈ nS (n + 1) [.row m0, .row m1, .int op, .str nm, .int pop, .int pn, .str pnm, .str pfd, .row pl, .row ex, .bool dn, .bool mo, .row bd, .row el, .row en, .row e2] := fun p h => by simp only [nS, List.mem_append]; exact .inr (.inr (.inr (.inr (.inr (.inr h)))))
      have e4 := flat_map (k := nE n) (k' := nE n2) (q := mE f n) (h := h) (l := pl) fun y hy => mE_nm f h n n2 (spl y hy) (by have := mRows_mem hy; omega) (by have := lt_map (q := mE f n) hy; omega) fun s hs => hp s fun p h1 => i4 p (in_flat hy (hs p h1))
      have e5 := flat_map (k := nE (n + 1)) (k' := nE (n2 + 1)) (q := mE f (n + 1)) (h := h) (l := ex) fun y hy => mE_nm f h (n + 1) (n2 + 1) (sex y hy) (by have := mRows_mem hy; omega) (by have := lt_map (q := mE f (n + 1)) hy; omega) fun s hs => hp s fun p h1 => i5 p (in_flat hy (hs p h1))
      have e6 := flat_map (k := nS n) (k' := nS n2) (q := mS f n) (h := h) (l := bd) fun y hy => mS_nm n n2 (sbd y hy) (by have := mRows_mem hy; omega) (by have := lt_map (q := mS f n) hy; omega) fun s hs => hp s fun p h1 => i6 p (in_flat hy (hs p h1))
      have e7 := flat_map (k := nS n) (k' := nS n2) (q := mS f n) (h := h) (l := el) fun y hy => mS_nm n n2 (sel y hy) (by have := mRows_mem hy; omega) (by have := lt_map (q := mS f n) hy; omega) fun s hs => hp s fun p h1 => i7 p (in_flat hy (hs p h1))
      have e1 := hp nm i1
      have e2' := hp pnm i2
      have e3 := hp pfd i3
      simp only [mS, nS, List.map_append]
      rw [e1, e2', e3, e4, e5, e6, e7]
theorem mR_nm : ∀ (n n2 : Nat) {x : List D} (_ : ShR x) (_ : mRow x < n) (_ : mRow (mR f n x) < n2) (_ : ∀ s, (∀ p ∈ parts s, p ∈ nR n x) → parts (f s) = (parts s).map h), nR n2 (mR f n x) = (nR n x).map h
  | 0, _, _, _, h1, _, _ => absurd h1 (Nat.not_lt_zero _)
  | _ + 1, 0, _, _, _, h2, _ => absurd h2 (Nat.not_lt_zero _)
  | n + 1, n2 + 1, x, hx, h1, h2, hp => by
    cases hx with
    | mk m0 m1 nm rs ps vr inn bd en s0 s1 sps svr sinn sbd sen =>
      simp only [mR, mRow, mD] at h1 h2
      have e1 := hp nm fun p h => by simp only [nR, List.mem_append]; exact .inl h
      have e2 := flat_map (k := nP) (k' := nP) (q := mP f) (h := h) (l := ps) fun y hy => mP_nm f h (sps y hy) fun s hs => hp s fun p h1 => by simp only [nR, List.mem_append]; exact .inr (.inl (in_flat hy (hs p h1)))
      have e3 := flat_map (k := nV) (k' := nV) (q := mV f) (h := h) (l := vr) fun y hy => mV_nm f h (svr y hy) fun s hs => hp s fun p h1 => by simp only [nR, List.mem_append]; exact .inr (.inr (.inl (in_flat hy (hs p h1))))
      have e4 := flat_map (k := nR n) (k' := nR n2) (q := mR f n) (h := h) (l := inn) fun y hy => mR_nm n n2 (sinn y hy) (by have := mRows_mem hy; omega) (by have := lt_map (q := mR f n) hy; omega) fun s hs => hp s fun p h1 => by simp only [nR, List.mem_append]; exact .inr (.inr (.inr (.inl (in_flat hy (hs p h1)))))
      have e5 := flat_map (k := nS (n + 1)) (k' := nS (n2 + 1)) (q := mS f (n + 1)) (h := h) (l := bd) fun y hy => mS_nm f h (n + 1) (n2 + 1) (sbd y hy) (by have := mRows_mem hy; omega) (by have := lt_map (q := mS f (n + 1)) hy; omega) fun s hs => hp s fun p h1 => by simp only [nR, List.mem_append]; exact .inr (.inr (.inr (.inr (in_flat hy (hs p h1)))))
      simp only [mR, nR, List.map_append]
      rw [e1, e2, e3, e4, e5]
theorem mG_nm (n n2 : Nat) {x : List D} (hx : ShG x) (h1 : mRow x < n) (h2 : mRow (mG f n x) < n2) (hp : ∀ s, (∀ p ∈ parts s, p ∈ nG n x) → parts (f s) = (parts s).map h) : nG n2 (mG f n x) = (nG n x).map h := by
  cases hx with
  | mk nm be mi af rc vr rt bd en sbe smi saf src svr srt sbd sen =>
    simp only [mG, mRow, mD] at h1 h2
    have e1 := hp nm fun p h => by simp only [nG, List.mem_append]; exact .inl h
    have e2 := flat_map (k := nC) (k' := nC) (q := mC f) (h := h) (l := rc) fun y hy => mC_nm f h (src y hy) fun s hs => hp s fun p h1 => by simp only [nG, List.mem_append]; exact .inr (.inl (in_flat hy (hs p h1)))
    have e3 := flat_map (k := nV) (k' := nV) (q := mV f) (h := h) (l := vr) fun y hy => mV_nm f h (svr y hy) fun s hs => hp s fun p h1 => by simp only [nG, List.mem_append]; exact .inr (.inr (.inl (in_flat hy (hs p h1))))
    have e4 := flat_map (k := nR n) (k' := nR n2) (q := mR f n) (h := h) (l := rt) fun y hy => mR_nm f h n n2 (srt y hy) (by have := mRows_mem hy; omega) (by have := lt_map (q := mR f n) hy; omega) fun s hs => hp s fun p h1 => by simp only [nG, List.mem_append]; exact .inr (.inr (.inr (.inl (in_flat hy (hs p h1)))))
    have e5 := flat_map (k := nS n) (k' := nS n2) (q := mS f n) (h := h) (l := bd) fun y hy => mS_nm f h n n2 (sbd y hy) (by have := mRows_mem hy; omega) (by have := lt_map (q := mS f n) hy; omega) fun s hs => hp s fun p h1 => by simp only [nG, List.mem_append]; exact .inr (.inr (.inr (.inr (in_flat hy (hs p h1)))))
    simp only [mG, nG, List.map_append]
    rw [e1, e2, e3, e4, e5]
end
end Go.Proofs.YtciijpahjjoppaaGreat
end
section
namespace Go.Proofs.YtciijpahjjoppaaGreat
open Go.RowKit Go.Shelf Go.Deep
section
variable (f f' : ByteArray → ByteArray)
theorem mF_back {x : List D} (hx : ShF x) (hp : ∀ s, (∀ p ∈ parts s, p ∈ nF x) → f' (f s) = s) : mF f' (mF f x) = x := by
  cases hx with | mk m0 m1 nm kd a b => simp only [mF]; rw [hp nm fun p hp => hp]
theorem mV_back {x : List D} (hx : ShV x) (hp : ∀ s, (∀ p ∈ parts s, p ∈ nV x) → f' (f s) = s) : mV f' (mV f x) = x := by
  cases hx with | mk m0 m1 nm kd sz tn a b => simp only [mV]; rw [hp nm fun p h => List.mem_append.2 (.inl h), hp tn fun p h => List.mem_append.2 (.inr h)]
theorem mP_back {x : List D} (hx : ShP x) (hp : ∀ s, (∀ p ∈ parts s, p ∈ nP x) → f' (f s) = s) : mP f' (mP f x) = x := by
  cases hx with | mk nm kd sz tn md => simp only [mP]; rw [hp nm fun p h => List.mem_append.2 (.inl h), hp tn fun p h => List.mem_append.2 (.inr h)]
theorem mC_back {x : List D} (hx : ShC x) (hp : ∀ s, (∀ p ∈ parts s, p ∈ nC x) → f' (f s) = s) : mC f' (mC f x) = x := by
  cases hx with
  | mk m0 m1 nm fs en a b c d =>
    simp only [mC]
    rw [hp nm fun p h => List.mem_append.2 (.inl h), back_map (q := mF f) (q' := mF f') fun y hy => mF_back f f' (c y hy) fun s hs => hp s fun p h1 => List.mem_append.2 (.inr (in_flat hy (hs p h1)))]
theorem mE_back : ∀ (n n2 : Nat) {x : List D} (_ : ShE x) (_ : mRow x < n) (_ : mRow (mE f n x) < n2) (_ : ∀ s, (∀ p ∈ parts s, p ∈ nE n x) → f' (f s) = s), mE f' n2 (mE f n x) = x
  | 0, _, _, _, h1, _, _ => absurd h1 (Nat.not_lt_zero _)
  | _ + 1, 0, _, _, _, h2, _ => absurd h2 (Nat.not_lt_zero _)
  | n + 1, n2 + 1, x, hx, h1, h2, hp => by
    cases hx with
    | mk op k nm fd l sl =>
      simp only [mE, mRow, mD] at h1 h2
      have e1 := hp nm fun p h => by simp only [nE, List.mem_append]; exact .inl h
      have e2 := hp fd fun p h => by simp only [nE, List.mem_append]; exact .inr (.inl h)
      have e3 := back_map (q := mE f n) (q' := mE f' n2) (l := l) fun y hy => mE_back n n2 (sl y hy) (by have := mRows_mem hy; omega) (by have := lt_map (q := mE f n) hy; omega) fun s hs => hp s fun p h1 => by simp only [nE, List.mem_append]; exact .inr (.inr (in_flat hy (hs p h1)))
      simp only [mE]
      rw [e1, e2, e3]
set_option maxHeartbeats 4000000 in
theorem mS_back : ∀ (n n2 : Nat) {x : List D} (_ : ShS x) (_ : mRow x < n) (_ : mRow (mS f n x) < n2) (_ : ∀ s, (∀ p ∈ parts s, p ∈ nS n x) → f' (f s) = s), mS f' n2 (mS f n x) = x
  | 0, _, _, _, h1, _, _ => absurd h1 (Nat.not_lt_zero _)
  | _ + 1, 0, _, _, _, h2, _ => absurd h2 (Nat.not_lt_zero _)
  | n + 1, n2 + 1, x, hx, h1, h2, hp => by
    cases hx with
    | mk m0 m1 op nm pop pn pnm pfd pl ex dn mo bd el en e2 s0 s1 spl sex sbd sel sen se2 =>
      simp only [mS, mRow, mD] at h1 h2
      have e1 := hp nm fun p h => by simp only [nS, List.mem_append]; exact .inl h
      have e2' := hp pnm fun p h => by simp only [nS, List.mem_append]; exact .inr (.inl h)
      have e3 := hp pfd fun p h => by simp only [nS, List.mem_append]; exact .inr (.inr (.inl h))
      have e4 := back_map (q := mE f n) (q' := mE f' n2) (l := pl) fun y hy => mE_back f f' n n2 (spl y hy) (by have := mRows_mem hy; omega) (by have := lt_map (q := mE f n) hy; omega) fun s hs => hp s fun p h1 => by simp only [nS, List.mem_append]; exact .inr (.inr (.inr (.inl (in_flat hy (hs p h1)))))
      have e5 := back_map (q := mE f (n + 1)) (q' := mE f' (n2 + 1)) (l := ex) fun y hy => mE_back f f' (n + 1) (n2 + 1) (sex y hy) (by have := mRows_mem hy; omega) (by have := lt_map (q := mE f (n + 1)) hy; omega) fun s hs => hp s fun p h1 => by simp only [nS, List.mem_append]; exact .inr (.inr (.inr (.inr (.inl (in_flat hy (hs p h1))))))
      have e6 := back_map (q := mS f n) (q' := mS f' n2) (l := bd) fun y hy => mS_back n n2 (sbd y hy) (by have := mRows_mem hy; omega) (by have := lt_map (q := mS f n) hy; omega) fun s hs => hp s fun p h1 => by simp only [nS, List.mem_append]; exact .inr (.inr (.inr (.inr (.inr (.inl (in_flat hy (hs p h1)))))))
      have e7 := back_map (q := mS f n) (q' := mS f' n2) (l := el) fun y hy => mS_back n n2 (sel y hy) (by have := mRows_mem hy; omega) (by have := lt_map (q := mS f n) hy; omega) fun s hs => hp s fun p h1 => by simp only [nS, List.mem_append]; exact .inr (.inr (.inr (.inr (.inr (.inr (in_flat hy (hs p h1)))))))
      simp only [mS]
      rw [e1, e2', e3, e4, e5, e6, e7]
theorem mR_back : ∀ (n n2 : Nat) {x : List D} (_ : ShR x) (_ : mRow x < n) (_ : mRow (mR f n x) < n2) (_ : ∀ s, (∀ p ∈ parts s, p ∈ nR n x) → f' (f s) = s), mR f' n2 (mR f n x) = x
  | 0, _, _, _, h1, _, _ => absurd h1 (Nat.not_lt_zero _)
  | _ + 1, 0, _, _, _, h2, _ => absurd h2 (Nat.not_lt_zero _)
  | n + 1, n2 + 1, x, hx, h1, h2, hp => by
    cases hx with
    | mk m0 m1 nm rs ps vr inn bd en s0 s1 sps svr sinn sbd sen =>
      simp only [mR, mRow, mD] at h1 h2
      have e1 := hp nm fun p h => by simp only [nR, List.mem_append]; exact .inl h
      have e2 := back_map (q := mP f) (q' := mP f') (l := ps) fun y hy => mP_back f f' (sps y hy) fun s hs => hp s fun p h1 => by simp only [nR, List.mem_append]; exact .inr (.inl (in_flat hy (hs p h1)))
      have e3 := back_map (q := mV f) (q' := mV f') (l := vr) fun y hy => mV_back f f' (svr y hy) fun s hs => hp s fun p h1 => by simp only [nR, List.mem_append]; exact .inr (.inr (.inl (in_flat hy (hs p h1))))
      have e4 := back_map (q := mR f n) (q' := mR f' n2) (l := inn) fun y hy => mR_back n n2 (sinn y hy) (by have := mRows_mem hy; omega) (by have := lt_map (q := mR f n) hy; omega) fun s hs => hp s fun p h1 => by simp only [nR, List.mem_append]; exact .inr (.inr (.inr (.inl (in_flat hy (hs p h1)))))
      have e5 := back_map (q := mS f (n + 1)) (q' := mS f' (n2 + 1)) (l := bd) fun y hy => mS_back f f' (n + 1) (n2 + 1) (sbd y hy) (by have := mRows_mem hy; omega) (by have := lt_map (q := mS f (n + 1)) hy; omega) fun s hs => hp s fun p h1 => by simp only [nR, List.mem_append]; exact .inr (.inr (.inr (.inr (in_flat hy (hs p h1)))))
      simp only [mR]
      rw [e1, e2, e3, e4, e5]
theorem mG_back (n n2 : Nat) {x : List D} (hx : ShG x) (h1 : mRow x < n) (h2 : mRow (mG f n x) < n2) (hp : ∀ s, (∀ p ∈ parts s, p ∈ nG n x) → f' (f s) = s) : mG f' n2 (mG f n x) = x := by
  cases hx with
  | mk nm be mi af rc vr rt bd en sbe smi saf src svr srt sbd sen =>
    simp only [mG, mRow, mD] at h1 h2
    have e1 := hp nm fun p h => by simp only [nG, List.mem_append]; exact .inl h
    have e2 := back_map (q := mC f) (q' := mC f') (l := rc) fun y hy => mC_back f f' (src y hy) fun s hs => hp s fun p h1 => by simp only [nG, List.mem_append]; exact .inr (.inl (in_flat hy (hs p h1)))
    have e3 := back_map (q := mV f) (q' := mV f') (l := vr) fun y hy => mV_back f f' (svr y hy) fun s hs => hp s fun p h1 => by simp only [nG, List.mem_append]; exact .inr (.inr (.inl (in_flat hy (hs p h1))))
    have e4 := back_map (q := mR f n) (q' := mR f' n2) (l := rt) fun y hy => mR_back f f' n n2 (srt y hy) (by have := mRows_mem hy; omega) (by have := lt_map (q := mR f n) hy; omega) fun s hs => hp s fun p h1 => by simp only [nG, List.mem_append]; exact .inr (.inr (.inr (.inl (in_flat hy (hs p h1)))))
    have e5 := back_map (q := mS f n) (q' := mS f' n2) (l := bd) fun y hy => mS_back f f' n n2 (sbd y hy) (by have := mRows_mem hy; omega) (by have := lt_map (q := mS f n) hy; omega) fun s hs => hp s fun p h1 => by simp only [nG, List.mem_append]; exact .inr (.inr (.inr (.inr (in_flat hy (hs p h1)))))
    simp only [mG]
    rw [e1, e2, e3, e4, e5]
end
end Go.Proofs.YtciijpahjjoppaaGreat
end
section
namespace Go.Proofs.YtciijpahjjoppaaGreat
open Go.RowKit Go.Deep Go.Shelf Go.Maps

structure AccJ (w : World) (v : Value) (acc : List ByteArray) (W : World) : Prop where
  own : OwnS w.heap.size W v acc
  bel : Below w.heap.size w W
theorem AccJ.start (w : World) : AccJ w (.slice none 0 0) [] w := ⟨OwnS.nil _ _, Below.refl _ _⟩
theorem AccJ.step {w : World} {v : Value} {acc : List ByteArray} {W W' : World} (h : AccJ w v acc W) (b : Below W.heap.size W W') : AccJ w v acc W' := ⟨h.own.below b, h.bel.trans (b.mono h.bel.size)⟩
theorem AccJ.grown {w : World} {v v' : Value} {acc acc' : List ByteArray} {W W' : World} (h : AccJ w v acc W) (ho : OwnS w.heap.size W' v' acc') (hg : W.grownBy W' v.ownBlock) : AccJ w v' acc' W' :=
  ⟨ho, h.bel.grown hg h.bel.size fun j hj => (h.own.lt j hj).1⟩
theorem AccJ.on {w0 w : World} {v : Value} {acc : List ByteArray} {W : World} (h : AccJ w v acc W) (k : Below w0.heap.size w0 w) : Below w0.heap.size w0 W := k.trans (h.bel.mono k.size)
theorem AccJ.drew {w : World} {v : Value} {acc : List ByteArray} {W : World} (h : AccJ w v acc W) : AccJ w v acc W.drew := h.step (below_drew0 (Below.refl _ _))
theorem take_flat {h : List D → List ByteArray} {l : List (List D)} {k : Nat} {x : List D} (hx : l[k]? = some x) : ((l.take k).flatMap h).length + (h x).length ≤ (l.flatMap h).length := by
  have e : l.flatMap h = (l.take k).flatMap h ++ (h x ++ (l.drop (k + 1)).flatMap h) := by
    rw [← List.flatMap_cons, ← dropC hx, ← List.flatMap_append, List.take_append_drop]
  rw [e, List.length_append, List.length_append]
  omega
theorem take_flat_succ {h : List D → List ByteArray} {l : List (List D)} {k : Nat} {x : List D} (hx : l[k]? = some x) : (l.take (k + 1)).flatMap h = (l.take k).flatMap h ++ h x := by
  rw [List.take_add_one, hx, List.flatMap_append]
  simp
theorem refPartsN (X : ByteArray) (hX : X.size ≤ 2000000) (w : World) : Calls Tryz.prog 52 #[.string X] w fun e w' => ∃ a cap, e = .returned (.slice a (parts X).length cap) ∧ IsStrs w' a (parts X).length cap (parts X) ∧ OwnS w.heap.size w' (.slice a (parts X).length cap) (parts X) ∧ Below w.heap.size w w' :=
  (refParts_any X w hX).mono fun e w' ⟨u, he, hu, hb⟩ => by
    obtain ⟨a, cap, rfl, hs⟩ := hu.strs (fun p hp => by have := parts_mem X p hp; unfold maxLen; omega)
    exact ⟨a, cap, he, hs, hu, hb⟩
/-- What a function of the reference that lists names leaves. -/
def NmsPost (ns : List ByteArray) (w : World) (e : Ending) (w' : World) : Prop := ∃ a cap, e = .returned (.slice a ns.length cap) ∧ IsStrs w' a ns.length cap ns ∧ OwnS w.heap.size w' (.slice a ns.length cap) ns ∧ Below w.heap.size w w'
theorem nms_done {w W : World} {v : Value} {acc : List ByteArray} (h : AccJ w v acc W) (hs : ∀ p ∈ acc, p.size ≤ 2000000) : ∃ a cap, v = .slice a acc.length cap ∧ NmsPost acc w (.returned v) W := by
  obtain ⟨a, cap, rfl, hst⟩ := h.own.strs (fun p hp => by have := hs p hp; unfold maxLen; omega)
  exact ⟨a, cap, rfl, a, cap, rfl, hst, h.own, h.bel⟩
end Go.Proofs.YtciijpahjjoppaaGreat
end
