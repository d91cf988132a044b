/-
  Texts of this proof, put together.
-/
import Derived.Test.YtciijpahjjoppaaGreatPc9
section
namespace Go.Proofs.YtciijpahjjoppaaGreat
open Go.RowKit Go.Deep Go.Maps Go.Sort

set_option linter.unusedVariables false

set_option maxRecDepth 100000 in
set_option maxHeartbeats 32000000 in
theorem rt_11 (w0 : World) (ar : Nat) (m0 m1 : List (List D)) (nm : ByteArray) (rs : Int) (ps vr inn bd en : List (List D)) (m0a : Option Addr) (m0c : Nat) (m1a : Option Addr) (m1c : Nat) (psa : Option Addr) (psc : Nat) (vra : Option Addr) (vrc : Nat) (ina : Option Addr) (inc : Nat) (bda : Option Addr) (bdc : Nat) (ena : Option Addr) (enc : Nat) (b3 b9 : Bool)
    (h_td : Says w0 60 #[.agg #[.int .i64 1, .int .i64 ar]] (.bool false))
    (h_mk : Says w0 105 #[.agg #[.int .i64 1, .int .i64 ar], .agg #[.slice m0a m0.length m0c, .slice m1a m1.length m1c]] (.bool true))
    (h_rn : Says w0 98 #[.agg #[.int .i64 1, .int .i64 ar], .string nm] (.bool true))
    (h_is : Says w0 136 #[.int .i64 rs] (.bool b3))
    (h_ps : Says w0 137 #[.slice psa ps.length psc, .func (.func 138) #[.agg #[.int .i64 1, .int .i64 ar]] #[]] (.bool true))
    (h_up : Says w0 139 #[.slice psa ps.length psc] (.bool true))
    (h_vr : Says w0 71 #[.slice vra vr.length vrc, .func (.func 72) #[.agg #[.int .i64 1, .int .i64 ar]] #[]] (.bool true))
    (h_dp : Says w0 65 #[.agg #[.int .i64 1, .int .i64 ar]] (.agg #[.int .i64 1, .int .i64 ((ar + 1 : Nat) : Int)]))
    (h_rt : Says w0 73 #[.agg #[.int .i64 1, .int .i64 ((ar + 1 : Nat) : Int)], .slice ina inn.length inc] (.bool true))
    (h_om : Says w0 114 #[.agg #[.int .i64 1, .int .i64 ar]] (.agg #[.int .i64 1, .int .i64 0]))
    (h_bd : Says w0 74 #[.slice bda bd.length bdc, .func (.func 75) #[.agg #[.int .i64 1, .int .i64 0]] #[]] (.bool true))
    (h_nt : ∀ (b T : Nat) (W : World), Below w0.heap.size w0 W → W.heap[b]? = some (.cells #[.slice ena en.length enc] T) → Calls Tryz.prog 68 #[.agg #[.int .i64 1, .int .i64 ar], .slice (some ⟨b, 0, none⟩) 1 1] W fun e W' => e = .returned (.bool b9) ∧ Below W.heap.size W W')
    (hz : (rs == 0) = true) (hin : inn.length = 0) (w : World) (hW : Below w0.heap.size w0 w) :
    Calls Tryz.prog 110 #[.agg #[.int .i64 1, .int .i64 ar], .agg #[.slice m0a m0.length m0c, .slice m1a m1.length m1c, .string nm, .int .i64 rs, .slice psa ps.length psc, .slice vra vr.length vrc, .slice ina inn.length inc, .slice bda bd.length bdc, .slice ena en.length enc]] w fun e w' => e = .returned (.bool b9) ∧ Below w.heap.size w w' := by
  have K_nt := Lib.hid h_nt
  clear h_nt
  have g1 : ((inn.length : Int) == 0) = true := by rw [beq_iff_eq]; omega
  have g2 : (inn.length == 0) = true := by rw [beq_iff_eq]; omega
  clear hin
  have K_td := Lib.hid h_td
  have K_mk := Lib.hid h_mk
  have K_rn := Lib.hid h_rn
  have K_is := Lib.hid h_is
  have K_ps := Lib.hid h_ps
  have K_up := Lib.hid h_up
  have K_vr := Lib.hid h_vr
  have K_dp := Lib.hid h_dp
  have K_rt := Lib.hid h_rt
  have K_om := Lib.hid h_om
  have K_bd := Lib.hid h_bd
  have HW := Lib.hid hW
  have S0 := Lib.hid (Bx2.start w (.cells #[.int .i64 1, .int .i64 ar] 51) (.cells #[.slice m0a m0.length m0c, .slice m1a m1.length m1c, .string nm, .int .i64 rs, .slice psa ps.length psc, .slice vra vr.length vrc, .slice ina inn.length inc, .slice bda bd.length bdc, .slice ena en.length enc] 80))
  clear hW h_td h_mk h_rn h_is h_ps h_up h_vr h_dp h_rt h_om h_bd
  go_enter Tryz.func110, Tryz.ntmps110
  go_wp2_with fail
  obtain ⟨w2, hw2⟩ : ∃ w2, w2 = (w.alloc (.cells #[.int .i64 1, .int .i64 ar] 51)).alloc (.cells #[.slice m0a m0.length m0c, .slice m1a m1.length m1c, .string nm, .int .i64 rs, .slice psa ps.length psc, .slice vra vr.length vrc, .slice ina inn.length inc, .slice bda bd.length bdc, .slice ena en.length enc] 80) := ⟨_, rfl⟩
  rw [← hw2] at S0 ⊢
  have HSZ := Lib.hid hw2
  clear hw2
  have HS0 := Lib.hid (show RtS w 1 ar m0 m1 nm rs ps vr inn bd en m0a m0c m1a m1c psa psc vra vrc ina inc bda bdc ena enc w2.drew from by
    have cP := box_cells S0.out.a
    have cQ := box_cells S0.out.b
    exact ⟨cP 0, cP 1, cQ 0, cQ 1, cQ 2, cQ 3, cQ 4, cQ 5, cQ 6, cQ 7, cQ 8, below_drew0 S0.out.bel⟩)
  have A_td := Lib.hid (show ∀ W, RtS w 1 ar m0 m1 nm rs ps vr inn bd en m0a m0c m1a m1c psa psc vra vrc ina inc bda bdc ena enc W → Calls Tryz.prog 60 #[.agg #[.int .i64 1, .int .i64 ar]] W fun e W' => e = .returned (.bool false) ∧ RtS w 1 ar m0 m1 nm rs ps vr inn bd en m0a m0c m1a m1c psa psc vra vrc ina inc bda bdc ena enc W' from fun W hS => (K_td.out W (HW.out.trans (hS.since.mono HW.out.size))).mono fun e W' h => ⟨h.1, hS.step h.2⟩)
  have A_mk := Lib.hid (show ∀ W, RtS w 1 ar m0 m1 nm rs ps vr inn bd en m0a m0c m1a m1c psa psc vra vrc ina inc bda bdc ena enc W → Calls Tryz.prog 105 #[.agg #[.int .i64 1, .int .i64 ar], .agg #[.slice m0a m0.length m0c, .slice m1a m1.length m1c]] W fun e W' => e = .returned (.bool true) ∧ RtS w 1 ar m0 m1 nm rs ps vr inn bd en m0a m0c m1a m1c psa psc vra vrc ina inc bda bdc ena enc W' from fun W hS => (K_mk.out W (HW.out.trans (hS.since.mono HW.out.size))).mono fun e W' h => ⟨h.1, hS.step h.2⟩)
  have A_rn := Lib.hid (show ∀ W, RtS w 1 ar m0 m1 nm rs ps vr inn bd en m0a m0c m1a m1c psa psc vra vrc ina inc bda bdc ena enc W → Calls Tryz.prog 98 #[.agg #[.int .i64 1, .int .i64 ar], .string nm] W fun e W' => e = .returned (.bool true) ∧ RtS w 1 ar m0 m1 nm rs ps vr inn bd en m0a m0c m1a m1c psa psc vra vrc ina inc bda bdc ena enc W' from fun W hS => (K_rn.out W (HW.out.trans (hS.since.mono HW.out.size))).mono fun e W' h => ⟨h.1, hS.step h.2⟩)
  have A_is := Lib.hid (show ∀ W, RtS w 1 ar m0 m1 nm rs ps vr inn bd en m0a m0c m1a m1c psa psc vra vrc ina inc bda bdc ena enc W → Calls Tryz.prog 136 #[.int .i64 rs] W fun e W' => e = .returned (.bool b3) ∧ RtS w 1 ar m0 m1 nm rs ps vr inn bd en m0a m0c m1a m1c psa psc vra vrc ina inc bda bdc ena enc W' from fun W hS => (K_is.out W (HW.out.trans (hS.since.mono HW.out.size))).mono fun e W' h => ⟨h.1, hS.step h.2⟩)
  have A_ps := Lib.hid (show ∀ W, RtS w 1 ar m0 m1 nm rs ps vr inn bd en m0a m0c m1a m1c psa psc vra vrc ina inc bda bdc ena enc W → Calls Tryz.prog 137 #[.slice psa ps.length psc, .func (.func 138) #[.agg #[.int .i64 1, .int .i64 ar]] #[]] W fun e W' => e = .returned (.bool true) ∧ RtS w 1 ar m0 m1 nm rs ps vr inn bd en m0a m0c m1a m1c psa psc vra vrc ina inc bda bdc ena enc W' from fun W hS => (K_ps.out W (HW.out.trans (hS.since.mono HW.out.size))).mono fun e W' h => ⟨h.1, hS.step h.2⟩)
  have A_up := Lib.hid (show ∀ W, RtS w 1 ar m0 m1 nm rs ps vr inn bd en m0a m0c m1a m1c psa psc vra vrc ina inc bda bdc ena enc W → Calls Tryz.prog 139 #[.slice psa ps.length psc] W fun e W' => e = .returned (.bool true) ∧ RtS w 1 ar m0 m1 nm rs ps vr inn bd en m0a m0c m1a m1c psa psc vra vrc ina inc bda bdc ena enc W' from fun W hS => (K_up.out W (HW.out.trans (hS.since.mono HW.out.size))).mono fun e W' h => ⟨h.1, hS.step h.2⟩)
  have A_vr := Lib.hid (show ∀ W, RtS w 1 ar m0 m1 nm rs ps vr inn bd en m0a m0c m1a m1c psa psc vra vrc ina inc bda bdc ena enc W → Calls Tryz.prog 71 #[.slice vra vr.length vrc, .func (.func 72) #[.agg #[.int .i64 1, .int .i64 ar]] #[]] W fun e W' => e = .returned (.bool true) ∧ RtS w 1 ar m0 m1 nm rs ps vr inn bd en m0a m0c m1a m1c psa psc vra vrc ina inc bda bdc ena enc W' from fun W hS => (K_vr.out W (HW.out.trans (hS.since.mono HW.out.size))).mono fun e W' h => ⟨h.1, hS.step h.2⟩)
  have A_dp := Lib.hid (show ∀ W, RtS w 1 ar m0 m1 nm rs ps vr inn bd en m0a m0c m1a m1c psa psc vra vrc ina inc bda bdc ena enc W → Calls Tryz.prog 65 #[.agg #[.int .i64 1, .int .i64 ar]] W fun e W' => e = .returned (.agg #[.int .i64 1, .int .i64 ((ar + 1 : Nat) : Int)]) ∧ RtS w 1 ar m0 m1 nm rs ps vr inn bd en m0a m0c m1a m1c psa psc vra vrc ina inc bda bdc ena enc W' from fun W hS => (K_dp.out W (HW.out.trans (hS.since.mono HW.out.size))).mono fun e W' h => ⟨h.1, hS.step h.2⟩)
  have A_rt := Lib.hid (show ∀ W, RtS w 1 ar m0 m1 nm rs ps vr inn bd en m0a m0c m1a m1c psa psc vra vrc ina inc bda bdc ena enc W → Calls Tryz.prog 73 #[.agg #[.int .i64 1, .int .i64 ((ar + 1 : Nat) : Int)], .slice ina inn.length inc] W fun e W' => e = .returned (.bool true) ∧ RtS w 1 ar m0 m1 nm rs ps vr inn bd en m0a m0c m1a m1c psa psc vra vrc ina inc bda bdc ena enc W' from fun W hS => (K_rt.out W (HW.out.trans (hS.since.mono HW.out.size))).mono fun e W' h => ⟨h.1, hS.step h.2⟩)
  have A_om := Lib.hid (show ∀ W, RtS w 1 ar m0 m1 nm rs ps vr inn bd en m0a m0c m1a m1c psa psc vra vrc ina inc bda bdc ena enc W → Calls Tryz.prog 114 #[.agg #[.int .i64 1, .int .i64 ar]] W fun e W' => e = .returned (.agg #[.int .i64 1, .int .i64 0]) ∧ RtS w 1 ar m0 m1 nm rs ps vr inn bd en m0a m0c m1a m1c psa psc vra vrc ina inc bda bdc ena enc W' from fun W hS => (K_om.out W (HW.out.trans (hS.since.mono HW.out.size))).mono fun e W' h => ⟨h.1, hS.step h.2⟩)
  have A_bd := Lib.hid (show ∀ W, RtS w 1 ar m0 m1 nm rs ps vr inn bd en m0a m0c m1a m1c psa psc vra vrc ina inc bda bdc ena enc W → Calls Tryz.prog 74 #[.slice bda bd.length bdc, .func (.func 75) #[.agg #[.int .i64 1, .int .i64 0]] #[]] W fun e W' => e = .returned (.bool true) ∧ RtS w 1 ar m0 m1 nm rs ps vr inn bd en m0a m0c m1a m1c psa psc vra vrc ina inc bda bdc ena enc W' from fun W hS => (K_bd.out W (HW.out.trans (hS.since.mono HW.out.size))).mono fun e W' h => ⟨h.1, hS.step h.2⟩)
  have A_nt := Lib.hid (show ∀ (b T : Nat) (W : World), RtS w 1 ar m0 m1 nm rs ps vr inn bd en m0a m0c m1a m1c psa psc vra vrc ina inc bda bdc ena enc W → W.heap[b]? = some (.cells #[.slice ena en.length enc] T) → Calls Tryz.prog 68 #[.agg #[.int .i64 1, .int .i64 ar], .slice (some ⟨b, 0, none⟩) 1 1] W fun e W' => e = .returned (.bool b9) ∧ RtS w 1 ar m0 m1 nm rs ps vr inn bd en m0a m0c m1a m1c psa psc vra vrc ina inc bda bdc ena enc W' from fun b T W hS hb => (K_nt.out b T W (HW.out.trans (hS.since.mono HW.out.size)) hb).mono fun e W' h => ⟨h.1, hS.step h.2⟩)
  clear S0 HSZ HW K_nt K_td K_mk K_rn K_is K_ps K_up K_vr K_dp K_rt K_om K_bd
  refine wp_region_held (ops := ops110) (S := RtS w 1 ar m0 m1 nm rs ps vr inn bd en m0a m0c m1a m1c psa psc vra vrc ina inc bda bdc ena enc) (by kernel_rfl) ?_
  have hHeld := HS0.out
  clear HS0
  refine wpAnyH_take (i := 0) (oi := ⟨some 5, .load 51 (.tmp 2), 51, "check.go:115", #[], none⟩) (v := ?v0) rfl (by kernel_rfl) (by kernel_rfl) (by kernel_rfl) (fun _ _ _ h => h) (Or.inl ⟨by rfl, ?hy0⟩) hHeld ?rest0
  case hy0 => (intro W hSW; unfold RtS at hSW; go_simp; try with_reducible rfl)
  try simp only [Act.put, List.setIfInBounds_toArray, List.set_cons_zero, List.set_cons_succ]
  refine wpAnyH_ready (rs := [1]) (by kernel_rfl) (by simp) ?_
  refine AllReadyH.cons (o := ⟨some 6, .call { callee := .value (.func 60), args := #[.tmp 5], argTypes := #[51] }, 4, "check.go:115", #[⟨0, .data⟩], none⟩) rfl (fun K hK => ?_) AllReadyH.nil
  rw [if_pos (by rfl)]
  go_simp
  go_at_call 60
  refine (A_td.out _ hHeld).mono ?_
  rintro e w7 ⟨rfl, s7⟩
  clear hHeld
  have hHeld := s7
  clear s7
  refine hK.out _ _ hHeld (fun _ => ?_)
  clear hK K
  try simp only [Act.put, List.setIfInBounds_toArray, List.set_cons_zero, List.set_cons_succ]
  refine wpAnyH_take (i := 2) (oi := ⟨some 7, .unOp .not 4 (.tmp 6), 4, "check.go:115", #[⟨1, .data⟩], none⟩) (v := ?v2) rfl (by kernel_rfl) (by kernel_rfl) (by kernel_rfl) (fun _ _ _ h => h) (Or.inl ⟨by rfl, ?hy2⟩) hHeld ?rest2
  case hy2 => (intro W hSW; unfold RtS at hSW; go_simp; try with_reducible rfl)
  try simp only [Act.put, List.setIfInBounds_toArray, List.set_cons_zero, List.set_cons_succ]
  refine wpAnyH_take (i := 3) (oi := ⟨some 8, .move (.tmp 7), 4, "check.go:115", #[⟨2, .data⟩, ⟨1, .chain⟩], none⟩) (v := ?v3) rfl (by kernel_rfl) (by kernel_rfl) (by kernel_rfl) (fun _ _ _ h => h) (Or.inl ⟨by rfl, ?hy3⟩) hHeld ?rest3
  case hy3 => (intro W hSW; unfold RtS at hSW; go_simp; try with_reducible rfl)
  try simp only [Act.put, List.setIfInBounds_toArray, List.set_cons_zero, List.set_cons_succ]
  refine wpAnyH_take (i := 4) (oi := ⟨some 9, .load 51 (.tmp 2), 51, "check.go:115", #[⟨3, .guard⟩], some (3, true)⟩) (v := ?v4) rfl (by kernel_rfl) (by kernel_rfl) (by kernel_rfl) (fun _ _ _ h => h) (Or.inl ⟨by rfl, ?hy4⟩) hHeld ?rest4
  case hy4 => (intro W hSW; unfold RtS at hSW; go_simp; try with_reducible rfl)
  try simp only [Act.put, List.setIfInBounds_toArray, List.set_cons_zero, List.set_cons_succ]
  refine wpAnyH_take (i := 5) (oi := ⟨some 10, .fieldAddr 80 (.tmp 3) 0, 0, "check.go:115", #[⟨3, .guard⟩], some (3, true)⟩) (v := ?v5) rfl (by kernel_rfl) (by kernel_rfl) (by kernel_rfl) (fun _ _ _ h => h) (Or.inl ⟨by rfl, ?hy5⟩) hHeld ?rest5
  case hy5 => (intro W hSW; unfold RtS at hSW; go_simp; try with_reducible rfl)
  try simp only [Act.put, List.setIfInBounds_toArray, List.set_cons_zero, List.set_cons_succ]
  refine wpAnyH_take (i := 6) (oi := ⟨some 11, .load 59 (.tmp 10), 59, "check.go:115", #[⟨5, .data⟩, ⟨3, .guard⟩], some (3, true)⟩) (v := ?v6) rfl (by kernel_rfl) (by kernel_rfl) (by kernel_rfl) (fun _ _ _ h => h) (Or.inl ⟨by rfl, ?hy6⟩) hHeld ?rest6
  case hy6 => (intro W hSW; unfold RtS at hSW; go_simp; try with_reducible rfl)
  try simp only [Act.put, List.setIfInBounds_toArray, List.set_cons_zero, List.set_cons_succ]
  refine wpAnyH_ready (rs := [7]) (by kernel_rfl) (by simp) ?_
  refine AllReadyH.cons (o := ⟨some 12, .call { callee := .value (.func 105), args := #[.tmp 9, .tmp 11], argTypes := #[51, 59] }, 4, "check.go:115", #[⟨4, .data⟩, ⟨6, .data⟩, ⟨3, .chain⟩, ⟨3, .guard⟩], some (3, true)⟩) rfl (fun K hK => ?_) AllReadyH.nil
  rw [if_pos (by rfl)]
  go_simp
  go_at_call 105
  refine (A_mk.out _ hHeld).mono ?_
  rintro e w7 ⟨rfl, s7⟩
  clear hHeld
  have hHeld := s7
  clear s7
  refine hK.out _ _ hHeld (fun _ => ?_)
  clear hK K
  try simp only [Act.put, List.setIfInBounds_toArray, List.set_cons_zero, List.set_cons_succ]
  refine wpAnyH_take (i := 8) (oi := ⟨some 13, .pick (.tmp 8) (.tmp 12) (.const (.bool false)), 4, "check.go:115", #[⟨3, .data⟩, ⟨7, .data⟩], none⟩) (v := ?v8) rfl (by kernel_rfl) (by kernel_rfl) (by kernel_rfl) (fun _ _ _ h => h) (Or.inl ⟨by rfl, ?hy8⟩) hHeld ?rest8
  case hy8 => (intro W hSW; unfold RtS at hSW; go_simp; try with_reducible rfl)
  try simp only [Act.put, List.setIfInBounds_toArray, List.set_cons_zero, List.set_cons_succ]
  refine wpAnyH_take (i := 9) (oi := ⟨some 14, .move (.tmp 13), 4, "check.go:115", #[⟨8, .data⟩, ⟨7, .chain⟩], none⟩) (v := ?v9) rfl (by kernel_rfl) (by kernel_rfl) (by kernel_rfl) (fun _ _ _ h => h) (Or.inl ⟨by rfl, ?hy9⟩) hHeld ?rest9
  case hy9 => (intro W hSW; unfold RtS at hSW; go_simp; try with_reducible rfl)
  try simp only [Act.put, List.setIfInBounds_toArray, List.set_cons_zero, List.set_cons_succ]
  refine wpAnyH_take (i := 10) (oi := ⟨some 15, .load 51 (.tmp 2), 51, "check.go:115", #[⟨9, .guard⟩], some (9, true)⟩) (v := ?v10) rfl (by kernel_rfl) (by kernel_rfl) (by kernel_rfl) (fun _ _ _ h => h) (Or.inl ⟨by rfl, ?hy10⟩) hHeld ?rest10
  case hy10 => (intro W hSW; unfold RtS at hSW; go_simp; try with_reducible rfl)
  try simp only [Act.put, List.setIfInBounds_toArray, List.set_cons_zero, List.set_cons_succ]
  refine wpAnyH_take (i := 11) (oi := ⟨some 16, .fieldAddr 80 (.tmp 3) 1, 0, "check.go:115", #[⟨9, .guard⟩], some (9, true)⟩) (v := ?v11) rfl (by kernel_rfl) (by kernel_rfl) (by kernel_rfl) (fun _ _ _ h => h) (Or.inl ⟨by rfl, ?hy11⟩) hHeld ?rest11
  case hy11 => (intro W hSW; unfold RtS at hSW; go_simp; try with_reducible rfl)
  try simp only [Act.put, List.setIfInBounds_toArray, List.set_cons_zero, List.set_cons_succ]
  refine wpAnyH_take (i := 12) (oi := ⟨some 17, .load 9 (.tmp 16), 9, "check.go:115", #[⟨11, .data⟩, ⟨9, .guard⟩], some (9, true)⟩) (v := ?v12) rfl (by kernel_rfl) (by kernel_rfl) (by kernel_rfl) (fun _ _ _ h => h) (Or.inl ⟨by rfl, ?hy12⟩) hHeld ?rest12
  case hy12 => (intro W hSW; unfold RtS at hSW; go_simp; try with_reducible rfl)
  try simp only [Act.put, List.setIfInBounds_toArray, List.set_cons_zero, List.set_cons_succ]
  refine wpAnyH_ready (rs := [13]) (by kernel_rfl) (by simp) ?_
  refine AllReadyH.cons (o := ⟨some 18, .call { callee := .value (.func 98), args := #[.tmp 15, .tmp 17], argTypes := #[51, 9] }, 4, "check.go:115", #[⟨10, .data⟩, ⟨12, .data⟩, ⟨9, .chain⟩, ⟨9, .guard⟩], some (9, true)⟩) rfl (fun K hK => ?_) AllReadyH.nil
  rw [if_pos (by rfl)]
  go_simp
  go_at_call 98
  refine (A_rn.out _ hHeld).mono ?_
  rintro e w7 ⟨rfl, s7⟩
  clear hHeld
  have hHeld := s7
  clear s7
  refine hK.out _ _ hHeld (fun _ => ?_)
  clear hK K
  try simp only [Act.put, List.setIfInBounds_toArray, List.set_cons_zero, List.set_cons_succ]
  refine wpAnyH_take (i := 14) (oi := ⟨some 19, .pick (.tmp 14) (.tmp 18) (.const (.bool false)), 4, "check.go:115", #[⟨9, .data⟩, ⟨13, .data⟩], none⟩) (v := ?v14) rfl (by kernel_rfl) (by kernel_rfl) (by kernel_rfl) (fun _ _ _ h => h) (Or.inl ⟨by rfl, ?hy14⟩) hHeld ?rest14
  case hy14 => (intro W hSW; unfold RtS at hSW; go_simp; try with_reducible rfl)
  try simp only [Act.put, List.setIfInBounds_toArray, List.set_cons_zero, List.set_cons_succ]
  refine wpAnyH_take (i := 15) (oi := ⟨some 20, .move (.tmp 19), 4, "check.go:115", #[⟨14, .data⟩, ⟨13, .chain⟩], none⟩) (v := ?v15) rfl (by kernel_rfl) (by kernel_rfl) (by kernel_rfl) (fun _ _ _ h => h) (Or.inl ⟨by rfl, ?hy15⟩) hHeld ?rest15
  case hy15 => (intro W hSW; unfold RtS at hSW; go_simp; try with_reducible rfl)
  try simp only [Act.put, List.setIfInBounds_toArray, List.set_cons_zero, List.set_cons_succ]
  refine wpAnyH_take (i := 16) (oi := ⟨some 21, .fieldAddr 80 (.tmp 3) 2, 0, "check.go:115", #[⟨15, .guard⟩], some (15, true)⟩) (v := ?v16) rfl (by kernel_rfl) (by kernel_rfl) (by kernel_rfl) (fun _ _ _ h => h) (Or.inl ⟨by rfl, ?hy16⟩) hHeld ?rest16
  case hy16 => (intro W hSW; unfold RtS at hSW; go_simp; try with_reducible rfl)
  try simp only [Act.put, List.setIfInBounds_toArray, List.set_cons_zero, List.set_cons_succ]
  refine wpAnyH_take (i := 17) (oi := ⟨some 22, .load 3 (.tmp 21), 3, "check.go:115", #[⟨16, .data⟩, ⟨15, .guard⟩], some (15, true)⟩) (v := ?v17) rfl (by kernel_rfl) (by kernel_rfl) (by kernel_rfl) (fun _ _ _ h => h) (Or.inl ⟨by rfl, ?hy17⟩) hHeld ?rest17
  case hy17 => (intro W hSW; unfold RtS at hSW; go_simp; try with_reducible rfl)
  try simp only [Act.put, List.setIfInBounds_toArray, List.set_cons_zero, List.set_cons_succ]
  refine wpAnyH_take (i := 18) (oi := ⟨some 23, .binOp .eql 3 (.tmp 22) (.const (.int .i64 0)) 3, 4, "check.go:115", #[⟨17, .data⟩, ⟨15, .guard⟩], some (15, true)⟩) (v := ?v18) rfl (by kernel_rfl) (by kernel_rfl) (by kernel_rfl) (fun _ _ _ h => h) (Or.inl ⟨by rfl, ?hy18⟩) hHeld ?rest18
  case hy18 => (intro W hSW; unfold RtS at hSW; go_simp; try with_reducible rfl)
  try simp only [Act.put, List.setIfInBounds_toArray, List.set_cons_zero, List.set_cons_succ]
  refine wpAnyH_take (i := 19) (oi := ⟨some 24, .move (.tmp 23), 4, "check.go:115", #[⟨18, .data⟩, ⟨15, .chain⟩, ⟨15, .guard⟩], some (15, true)⟩) (v := ?v19) rfl (by kernel_rfl) (by kernel_rfl) (by kernel_rfl) (fun _ _ _ h => h) (Or.inl ⟨by rfl, ?hy19⟩) hHeld ?rest19
  case hy19 => (intro W hSW; unfold RtS at hSW; go_simp; try with_reducible rfl)
  try simp only [Act.put, List.setIfInBounds_toArray, List.set_cons_zero, List.set_cons_succ]
  refine wpAnyH_take (i := 20) (oi := ⟨some 25, .fieldAddr 80 (.tmp 3) 2, 0, "check.go:115", #[⟨19, .guard⟩], some (19, false)⟩) (v := undef) rfl (by kernel_rfl) (by kernel_rfl) (by kernel_rfl) (fun _ _ _ h => h) (Or.inr ⟨by rfl, rfl⟩) hHeld ?_
  try simp only [Act.put, List.setIfInBounds_toArray, List.set_cons_zero, List.set_cons_succ]
  refine wpAnyH_take (i := 21) (oi := ⟨some 26, .load 3 (.tmp 25), 3, "check.go:115", #[⟨20, .data⟩, ⟨19, .guard⟩], some (19, false)⟩) (v := undef) rfl (by kernel_rfl) (by kernel_rfl) (by kernel_rfl) (fun _ _ _ h => h) (Or.inr ⟨by rfl, rfl⟩) hHeld ?_
  try simp only [Act.put, List.setIfInBounds_toArray, List.set_cons_zero, List.set_cons_succ]
  refine wpAnyH_take (i := 22) (oi := ⟨some 27, .call { callee := .value (.func 136), args := #[.tmp 26], argTypes := #[3] }, 4, "check.go:116", #[⟨21, .data⟩, ⟨19, .chain⟩, ⟨19, .guard⟩], some (19, false)⟩) (v := undef) rfl (by kernel_rfl) (by kernel_rfl) (by kernel_rfl) (fun _ _ _ h => h) (Or.inr ⟨by rfl, rfl⟩) hHeld ?_
  try simp only [Act.put, List.setIfInBounds_toArray, List.set_cons_zero, List.set_cons_succ]
  refine wpAnyH_take (i := 23) (oi := ⟨some 28, .pick (.tmp 24) (.const (.bool true)) (.tmp 27), 4, "check.go:115", #[⟨19, .data⟩, ⟨22, .data⟩, ⟨15, .guard⟩], some (15, true)⟩) (v := ?v23) rfl (by kernel_rfl) (by kernel_rfl) (by kernel_rfl) (fun _ _ _ h => h) (Or.inl ⟨by rfl, ?hy23⟩) hHeld ?rest23
  case hy23 => (intro W hSW; unfold RtS at hSW; go_simp; try with_reducible rfl)
  try simp only [Act.put, List.setIfInBounds_toArray, List.set_cons_zero, List.set_cons_succ]
  refine wpAnyH_take (i := 24) (oi := ⟨some 29, .pick (.tmp 20) (.tmp 28) (.const (.bool false)), 4, "check.go:115", #[⟨15, .data⟩, ⟨23, .data⟩], none⟩) (v := ?v24) rfl (by kernel_rfl) (by kernel_rfl) (by kernel_rfl) (fun _ _ _ h => h) (Or.inl ⟨by rfl, ?hy24⟩) hHeld ?rest24
  case hy24 => (intro W hSW; unfold RtS at hSW; go_simp; try with_reducible rfl)
  try simp only [Act.put, List.setIfInBounds_toArray, List.set_cons_zero, List.set_cons_succ]
  refine wpAnyH_take (i := 25) (oi := ⟨some 30, .move (.tmp 29), 4, "check.go:115", #[⟨24, .data⟩, ⟨22, .chain⟩], none⟩) (v := ?v25) rfl (by kernel_rfl) (by kernel_rfl) (by kernel_rfl) (fun _ _ _ h => h) (Or.inl ⟨by rfl, ?hy25⟩) hHeld ?rest25
  case hy25 => (intro W hSW; unfold RtS at hSW; go_simp; try with_reducible rfl)
  try simp only [Act.put, List.setIfInBounds_toArray, List.set_cons_zero, List.set_cons_succ]
  refine wpAnyH_take (i := 26) (oi := ⟨some 31, .fieldAddr 80 (.tmp 3) 3, 0, "check.go:115", #[⟨25, .guard⟩], some (25, true)⟩) (v := ?v26) rfl (by kernel_rfl) (by kernel_rfl) (by kernel_rfl) (fun _ _ _ h => h) (Or.inl ⟨by rfl, ?hy26⟩) hHeld ?rest26
  case hy26 => (intro W hSW; unfold RtS at hSW; go_simp; try with_reducible rfl)
  try simp only [Act.put, List.setIfInBounds_toArray, List.set_cons_zero, List.set_cons_succ]
  refine wpAnyH_take (i := 27) (oi := ⟨some 32, .load 78 (.tmp 31), 78, "check.go:115", #[⟨26, .data⟩, ⟨25, .guard⟩], some (25, true)⟩) (v := ?v27) rfl (by kernel_rfl) (by kernel_rfl) (by kernel_rfl) (fun _ _ _ h => h) (Or.inl ⟨by rfl, ?hy27⟩) hHeld ?rest27
  case hy27 => (intro W hSW; unfold RtS at hSW; go_simp; try with_reducible rfl)
  try simp only [Act.put, List.setIfInBounds_toArray, List.set_cons_zero, List.set_cons_succ]
  refine wpAnyH_take (i := 28) (oi := ⟨some 33, .load 51 (.tmp 2), 51, "check.go:115", #[⟨25, .guard⟩], some (25, true)⟩) (v := ?v28) rfl (by kernel_rfl) (by kernel_rfl) (by kernel_rfl) (fun _ _ _ h => h) (Or.inl ⟨by rfl, ?hy28⟩) hHeld ?rest28
  case hy28 => (intro W hSW; unfold RtS at hSW; go_simp; try with_reducible rfl)
  try simp only [Act.put, List.setIfInBounds_toArray, List.set_cons_zero, List.set_cons_succ]
  refine wpAnyH_ready (rs := [29]) (by kernel_rfl) (by simp) ?_
  refine AllReadyH.cons (o := ⟨some 34, .makeFunc (.func 138) #[.tmp 33] #[], 179, "check.go:115", #[⟨28, .data⟩, ⟨25, .guard⟩], some (25, true)⟩) rfl (fun K hK => ?_) AllReadyH.nil
  rw [if_pos (by rfl)]
  go_simp
  refine hK.out _ _ hHeld (fun _ => ?_)
  clear hK K
  try simp only [Act.put, List.setIfInBounds_toArray, List.set_cons_zero, List.set_cons_succ]
  refine wpAnyH_ready (rs := [30]) (by kernel_rfl) (by simp) ?_
  refine AllReadyH.cons (o := ⟨some 35, .call { callee := .value (.func 137), args := #[.tmp 32, .tmp 34], argTypes := #[78, 179] }, 4, "check.go:117", #[⟨27, .data⟩, ⟨29, .data⟩, ⟨25, .chain⟩, ⟨25, .guard⟩], some (25, true)⟩) rfl (fun K hK => ?_) AllReadyH.nil
  rw [if_pos (by rfl)]
  go_simp
  go_at_call 137
  refine (A_ps.out _ hHeld).mono ?_
  rintro e w7 ⟨rfl, s7⟩
  clear hHeld
  have hHeld := s7
  clear s7
  refine hK.out _ _ hHeld (fun _ => ?_)
  clear hK K
  try simp only [Act.put, List.setIfInBounds_toArray, List.set_cons_zero, List.set_cons_succ]
  refine wpAnyH_take (i := 31) (oi := ⟨some 36, .pick (.tmp 30) (.tmp 35) (.const (.bool false)), 4, "check.go:115", #[⟨25, .data⟩, ⟨30, .data⟩], none⟩) (v := ?v31) rfl (by kernel_rfl) (by kernel_rfl) (by kernel_rfl) (fun _ _ _ h => h) (Or.inl ⟨by rfl, ?hy31⟩) hHeld ?rest31
  case hy31 => (intro W hSW; unfold RtS at hSW; go_simp; try with_reducible rfl)
  try simp only [Act.put, List.setIfInBounds_toArray, List.set_cons_zero, List.set_cons_succ]
  refine wpAnyH_take (i := 32) (oi := ⟨some 37, .move (.tmp 36), 4, "check.go:115", #[⟨31, .data⟩, ⟨30, .chain⟩], none⟩) (v := ?v32) rfl (by kernel_rfl) (by kernel_rfl) (by kernel_rfl) (fun _ _ _ h => h) (Or.inl ⟨by rfl, ?hy32⟩) hHeld ?rest32
  case hy32 => (intro W hSW; unfold RtS at hSW; go_simp; try with_reducible rfl)
  try simp only [Act.put, List.setIfInBounds_toArray, List.set_cons_zero, List.set_cons_succ]
  refine wpAnyH_take (i := 33) (oi := ⟨some 38, .fieldAddr 80 (.tmp 3) 3, 0, "check.go:115", #[⟨32, .guard⟩], some (32, true)⟩) (v := ?v33) rfl (by kernel_rfl) (by kernel_rfl) (by kernel_rfl) (fun _ _ _ h => h) (Or.inl ⟨by rfl, ?hy33⟩) hHeld ?rest33
  case hy33 => (intro W hSW; unfold RtS at hSW; go_simp; try with_reducible rfl)
  try simp only [Act.put, List.setIfInBounds_toArray, List.set_cons_zero, List.set_cons_succ]
  refine wpAnyH_take (i := 34) (oi := ⟨some 39, .load 78 (.tmp 38), 78, "check.go:115", #[⟨33, .data⟩, ⟨32, .guard⟩], some (32, true)⟩) (v := ?v34) rfl (by kernel_rfl) (by kernel_rfl) (by kernel_rfl) (fun _ _ _ h => h) (Or.inl ⟨by rfl, ?hy34⟩) hHeld ?rest34
  case hy34 => (intro W hSW; unfold RtS at hSW; go_simp; try with_reducible rfl)
  try simp only [Act.put, List.setIfInBounds_toArray, List.set_cons_zero, List.set_cons_succ]
  refine wpAnyH_ready (rs := [35]) (by kernel_rfl) (by simp) ?_
  refine AllReadyH.cons (o := ⟨some 40, .call { callee := .value (.func 139), args := #[.tmp 39], argTypes := #[78] }, 4, "check.go:117", #[⟨34, .data⟩, ⟨32, .chain⟩, ⟨32, .guard⟩], some (32, true)⟩) rfl (fun K hK => ?_) AllReadyH.nil
  rw [if_pos (by rfl)]
  go_simp
  go_at_call 139
  refine (A_up.out _ hHeld).mono ?_
  rintro e w7 ⟨rfl, s7⟩
  clear hHeld
  have hHeld := s7
  clear s7
  refine hK.out _ _ hHeld (fun _ => ?_)
  clear hK K
  try simp only [Act.put, List.setIfInBounds_toArray, List.set_cons_zero, List.set_cons_succ]
  refine wpAnyH_take (i := 36) (oi := ⟨some 41, .pick (.tmp 37) (.tmp 40) (.const (.bool false)), 4, "check.go:115", #[⟨32, .data⟩, ⟨35, .data⟩], none⟩) (v := ?v36) rfl (by kernel_rfl) (by kernel_rfl) (by kernel_rfl) (fun _ _ _ h => h) (Or.inl ⟨by rfl, ?hy36⟩) hHeld ?rest36
  case hy36 => (intro W hSW; unfold RtS at hSW; go_simp; try with_reducible rfl)
  try simp only [Act.put, List.setIfInBounds_toArray, List.set_cons_zero, List.set_cons_succ]
  refine wpAnyH_take (i := 37) (oi := ⟨some 42, .move (.tmp 41), 4, "check.go:115", #[⟨36, .data⟩, ⟨35, .chain⟩], none⟩) (v := ?v37) rfl (by kernel_rfl) (by kernel_rfl) (by kernel_rfl) (fun _ _ _ h => h) (Or.inl ⟨by rfl, ?hy37⟩) hHeld ?rest37
  case hy37 => (intro W hSW; unfold RtS at hSW; go_simp; try with_reducible rfl)
  try simp only [Act.put, List.setIfInBounds_toArray, List.set_cons_zero, List.set_cons_succ]
  refine wpAnyH_take (i := 38) (oi := ⟨some 43, .fieldAddr 80 (.tmp 3) 4, 0, "check.go:115", #[⟨37, .guard⟩], some (37, true)⟩) (v := ?v38) rfl (by kernel_rfl) (by kernel_rfl) (by kernel_rfl) (fun _ _ _ h => h) (Or.inl ⟨by rfl, ?hy38⟩) hHeld ?rest38
  case hy38 => (intro W hSW; unfold RtS at hSW; go_simp; try with_reducible rfl)
  try simp only [Act.put, List.setIfInBounds_toArray, List.set_cons_zero, List.set_cons_succ]
  refine wpAnyH_take (i := 39) (oi := ⟨some 44, .load 31 (.tmp 43), 31, "check.go:115", #[⟨38, .data⟩, ⟨37, .guard⟩], some (37, true)⟩) (v := ?v39) rfl (by kernel_rfl) (by kernel_rfl) (by kernel_rfl) (fun _ _ _ h => h) (Or.inl ⟨by rfl, ?hy39⟩) hHeld ?rest39
  case hy39 => (intro W hSW; unfold RtS at hSW; go_simp; try with_reducible rfl)
  try simp only [Act.put, List.setIfInBounds_toArray, List.set_cons_zero, List.set_cons_succ]
  refine wpAnyH_take (i := 40) (oi := ⟨some 45, .load 51 (.tmp 2), 51, "check.go:115", #[⟨37, .guard⟩], some (37, true)⟩) (v := ?v40) rfl (by kernel_rfl) (by kernel_rfl) (by kernel_rfl) (fun _ _ _ h => h) (Or.inl ⟨by rfl, ?hy40⟩) hHeld ?rest40
  case hy40 => (intro W hSW; unfold RtS at hSW; go_simp; try with_reducible rfl)
  try simp only [Act.put, List.setIfInBounds_toArray, List.set_cons_zero, List.set_cons_succ]
  refine wpAnyH_ready (rs := [41]) (by kernel_rfl) (by simp) ?_
  refine AllReadyH.cons (o := ⟨some 46, .makeFunc (.func 72) #[.tmp 45] #[], 121, "check.go:115", #[⟨40, .data⟩, ⟨37, .guard⟩], some (37, true)⟩) rfl (fun K hK => ?_) AllReadyH.nil
  rw [if_pos (by rfl)]
  go_simp
  refine hK.out _ _ hHeld (fun _ => ?_)
  clear hK K
  try simp only [Act.put, List.setIfInBounds_toArray, List.set_cons_zero, List.set_cons_succ]
  refine wpAnyH_ready (rs := [42]) (by kernel_rfl) (by simp) ?_
  refine AllReadyH.cons (o := ⟨some 47, .call { callee := .value (.func 71), args := #[.tmp 44, .tmp 46], argTypes := #[31, 121] }, 4, "check.go:118", #[⟨39, .data⟩, ⟨41, .data⟩, ⟨37, .chain⟩, ⟨37, .guard⟩], some (37, true)⟩) rfl (fun K hK => ?_) AllReadyH.nil
  rw [if_pos (by rfl)]
  go_simp
  go_at_call 71
  refine (A_vr.out _ hHeld).mono ?_
  rintro e w7 ⟨rfl, s7⟩
  clear hHeld
  have hHeld := s7
  clear s7
  refine hK.out _ _ hHeld (fun _ => ?_)
  clear hK K
  try simp only [Act.put, List.setIfInBounds_toArray, List.set_cons_zero, List.set_cons_succ]
  refine wpAnyH_take (i := 43) (oi := ⟨some 48, .pick (.tmp 42) (.tmp 47) (.const (.bool false)), 4, "check.go:115", #[⟨37, .data⟩, ⟨42, .data⟩], none⟩) (v := ?v43) rfl (by kernel_rfl) (by kernel_rfl) (by kernel_rfl) (fun _ _ _ h => h) (Or.inl ⟨by rfl, ?hy43⟩) hHeld ?rest43
  case hy43 => (intro W hSW; unfold RtS at hSW; go_simp; try with_reducible rfl)
  try simp only [Act.put, List.setIfInBounds_toArray, List.set_cons_zero, List.set_cons_succ]
  refine wpAnyH_take (i := 44) (oi := ⟨some 49, .move (.tmp 48), 4, "check.go:115", #[⟨43, .data⟩, ⟨42, .chain⟩], none⟩) (v := ?v44) rfl (by kernel_rfl) (by kernel_rfl) (by kernel_rfl) (fun _ _ _ h => h) (Or.inl ⟨by rfl, ?hy44⟩) hHeld ?rest44
  case hy44 => (intro W hSW; unfold RtS at hSW; go_simp; try with_reducible rfl)
  try simp only [Act.put, List.setIfInBounds_toArray, List.set_cons_zero, List.set_cons_succ]
  refine wpAnyH_take (i := 45) (oi := ⟨some 50, .fieldAddr 51 (.tmp 2) 0, 0, "check.go:115", #[⟨44, .guard⟩], some (44, true)⟩) (v := ?v45) rfl (by kernel_rfl) (by kernel_rfl) (by kernel_rfl) (fun _ _ _ h => h) (Or.inl ⟨by rfl, ?hy45⟩) hHeld ?rest45
  case hy45 => (intro W hSW; unfold RtS at hSW; go_simp; try with_reducible rfl)
  try simp only [Act.put, List.setIfInBounds_toArray, List.set_cons_zero, List.set_cons_succ]
  refine wpAnyH_take (i := 46) (oi := ⟨some 51, .load 3 (.tmp 50), 3, "check.go:115", #[⟨45, .data⟩, ⟨44, .guard⟩], some (44, true)⟩) (v := ?v46) rfl (by kernel_rfl) (by kernel_rfl) (by kernel_rfl) (fun _ _ _ h => h) (Or.inl ⟨by rfl, ?hy46⟩) hHeld ?rest46
  case hy46 => (intro W hSW; unfold RtS at hSW; go_simp; try with_reducible rfl)
  try simp only [Act.put, List.setIfInBounds_toArray, List.set_cons_zero, List.set_cons_succ]
  refine wpAnyH_take (i := 47) (oi := ⟨some 52, .binOp .eql 3 (.tmp 51) (.const (.int .i64 0)) 3, 4, "check.go:115", #[⟨46, .data⟩, ⟨44, .guard⟩], some (44, true)⟩) (v := ?v47) rfl (by kernel_rfl) (by kernel_rfl) (by kernel_rfl) (fun _ _ _ h => h) (Or.inl ⟨by rfl, ?hy47⟩) hHeld ?rest47
  case hy47 => (intro W hSW; unfold RtS at hSW; go_simp; try with_reducible rfl)
  try simp only [Act.put, List.setIfInBounds_toArray, List.set_cons_zero, List.set_cons_succ]
  refine wpAnyH_take (i := 48) (oi := ⟨some 53, .move (.tmp 52), 4, "check.go:115", #[⟨47, .data⟩, ⟨44, .chain⟩, ⟨44, .guard⟩], some (44, true)⟩) (v := ?v48) rfl (by kernel_rfl) (by kernel_rfl) (by kernel_rfl) (fun _ _ _ h => h) (Or.inl ⟨by rfl, ?hy48⟩) hHeld ?rest48
  case hy48 => (intro W hSW; unfold RtS at hSW; go_simp; try with_reducible rfl)
  try simp only [Act.put, List.setIfInBounds_toArray, List.set_cons_zero, List.set_cons_succ]
  refine wpAnyH_take (i := 49) (oi := ⟨some 54, .fieldAddr 80 (.tmp 3) 5, 0, "check.go:115", #[⟨48, .guard⟩], some (48, false)⟩) (v := ?v49) rfl (by kernel_rfl) (by kernel_rfl) (by kernel_rfl) (fun _ _ _ h => h) (Or.inl ⟨by rfl, ?hy49⟩) hHeld ?rest49
  case hy49 => (intro W hSW; unfold RtS at hSW; go_simp; try with_reducible rfl)
  try simp only [Act.put, List.setIfInBounds_toArray, List.set_cons_zero, List.set_cons_succ]
  refine wpAnyH_take (i := 50) (oi := ⟨some 55, .load 32 (.tmp 54), 32, "check.go:115", #[⟨49, .data⟩, ⟨48, .guard⟩], some (48, false)⟩) (v := ?v50) rfl (by kernel_rfl) (by kernel_rfl) (by kernel_rfl) (fun _ _ _ h => h) (Or.inl ⟨by rfl, ?hy50⟩) hHeld ?rest50
  case hy50 => (intro W hSW; unfold RtS at hSW; go_simp; try with_reducible rfl)
  try simp only [Act.put, List.setIfInBounds_toArray, List.set_cons_zero, List.set_cons_succ]
  refine wpAnyH_take (i := 51) (oi := ⟨some 56, .call { callee := .builtin .len, args := #[.tmp 55], argTypes := #[32] }, 3, "check.go:115", #[⟨50, .data⟩, ⟨48, .guard⟩], some (48, false)⟩) (v := ?v51) rfl (by kernel_rfl) (by kernel_rfl) (by kernel_rfl) (fun _ _ _ h => h) (Or.inl ⟨by rfl, ?hy51⟩) hHeld ?rest51
  case hy51 => (intro W hSW; unfold RtS at hSW; go_simp; try with_reducible rfl)
  try simp only [Act.put, List.setIfInBounds_toArray, List.set_cons_zero, List.set_cons_succ]
  refine wpAnyH_take (i := 52) (oi := ⟨some 57, .binOp .eql 3 (.tmp 56) (.const (.int .i64 0)) 3, 4, "check.go:115", #[⟨51, .data⟩, ⟨48, .guard⟩], some (48, false)⟩) (v := ?v52) rfl (by kernel_rfl) (by kernel_rfl) (by kernel_rfl) (fun _ _ _ h => h) (Or.inl ⟨by rfl, ?hy52⟩) hHeld ?rest52
  case hy52 => (intro W hSW; unfold RtS at hSW; go_simp; try with_reducible rfl)
  try simp only [Act.put, List.setIfInBounds_toArray, List.set_cons_zero, List.set_cons_succ]
  refine wpAnyH_take (i := 53) (oi := ⟨some 58, .pick (.tmp 53) (.const (.bool true)) (.tmp 57), 4, "check.go:115", #[⟨48, .data⟩, ⟨52, .data⟩, ⟨44, .guard⟩], some (44, true)⟩) (v := ?v53) rfl (by kernel_rfl) (by kernel_rfl) (by kernel_rfl) (fun _ _ _ h => h) (Or.inl ⟨by rfl, ?hy53⟩) hHeld ?rest53
  case hy53 => (intro W hSW; unfold RtS at hSW; go_simp; try with_reducible rfl)
  try simp only [Act.put, List.setIfInBounds_toArray, List.set_cons_zero, List.set_cons_succ]
  refine wpAnyH_take (i := 54) (oi := ⟨some 59, .pick (.tmp 49) (.tmp 58) (.const (.bool false)), 4, "check.go:115", #[⟨44, .data⟩, ⟨53, .data⟩], none⟩) (v := ?v54) rfl (by kernel_rfl) (by kernel_rfl) (by kernel_rfl) (fun _ _ _ h => h) (Or.inl ⟨by rfl, ?hy54⟩) hHeld ?rest54
  case hy54 => (intro W hSW; unfold RtS at hSW; go_simp; try with_reducible rfl)
  try simp only [Act.put, List.setIfInBounds_toArray, List.set_cons_zero, List.set_cons_succ]
  refine wpAnyH_take (i := 55) (oi := ⟨some 60, .move (.tmp 59), 4, "check.go:115", #[⟨54, .data⟩, ⟨48, .chain⟩], none⟩) (v := ?v55) rfl (by kernel_rfl) (by kernel_rfl) (by kernel_rfl) (fun _ _ _ h => h) (Or.inl ⟨by rfl, ?hy55⟩) hHeld ?rest55
  case hy55 => (intro W hSW; unfold RtS at hSW; go_simp; try with_reducible rfl)
  try simp only [Act.put, List.setIfInBounds_toArray, List.set_cons_zero, List.set_cons_succ]
  refine wpAnyH_take (i := 56) (oi := ⟨some 61, .load 51 (.tmp 2), 51, "check.go:115", #[⟨55, .guard⟩], some (55, true)⟩) (v := ?v56) rfl (by kernel_rfl) (by kernel_rfl) (by kernel_rfl) (fun _ _ _ h => h) (Or.inl ⟨by rfl, ?hy56⟩) hHeld ?rest56
  case hy56 => (intro W hSW; unfold RtS at hSW; go_simp; try with_reducible rfl)
  try simp only [Act.put, List.setIfInBounds_toArray, List.set_cons_zero, List.set_cons_succ]
  refine wpAnyH_take (i := 58) (oi := ⟨some 63, .fieldAddr 80 (.tmp 3) 5, 0, "check.go:115", #[⟨55, .guard⟩], some (55, true)⟩) (v := ?v58) rfl (by kernel_rfl) (by kernel_rfl) (by kernel_rfl) (fun _ _ _ h => h) (Or.inl ⟨by rfl, ?hy58⟩) hHeld ?rest58
  case hy58 => (intro W hSW; unfold RtS at hSW; go_simp; try with_reducible rfl)
  try simp only [Act.put, List.setIfInBounds_toArray, List.set_cons_zero, List.set_cons_succ]
  refine wpAnyH_take (i := 59) (oi := ⟨some 64, .load 32 (.tmp 63), 32, "check.go:115", #[⟨58, .data⟩, ⟨55, .guard⟩], some (55, true)⟩) (v := ?v59) rfl (by kernel_rfl) (by kernel_rfl) (by kernel_rfl) (fun _ _ _ h => h) (Or.inl ⟨by rfl, ?hy59⟩) hHeld ?rest59
  case hy59 => (intro W hSW; unfold RtS at hSW; go_simp; try with_reducible rfl)
  try simp only [Act.put, List.setIfInBounds_toArray, List.set_cons_zero, List.set_cons_succ]
  refine wpAnyH_ready (rs := [57]) (by kernel_rfl) (by simp) ?_
  refine AllReadyH.cons (o := ⟨some 62, .call { callee := .value (.func 65), args := #[.tmp 61], argTypes := #[51] }, 51, "check.go:119", #[⟨56, .data⟩, ⟨55, .chain⟩, ⟨55, .guard⟩], some (55, true)⟩) rfl (fun K hK => ?_) AllReadyH.nil
  rw [if_pos (by rfl)]
  go_simp
  go_at_call 65
  refine (A_dp.out _ hHeld).mono ?_
  rintro e w7 ⟨rfl, s7⟩
  clear hHeld
  have hHeld := s7
  clear s7
  refine hK.out _ _ hHeld (fun _ => ?_)
  clear hK K
  try simp only [Act.put, List.setIfInBounds_toArray, List.set_cons_zero, List.set_cons_succ]
  refine wpAnyH_ready (rs := [60]) (by kernel_rfl) (by simp) ?_
  refine AllReadyH.cons (o := ⟨some 65, .call { callee := .value (.func 73), args := #[.tmp 62, .tmp 64], argTypes := #[51, 32] }, 4, "check.go:119", #[⟨57, .data⟩, ⟨59, .data⟩, ⟨57, .chain⟩, ⟨55, .guard⟩], some (55, true)⟩) rfl (fun K hK => ?_) AllReadyH.nil
  rw [if_pos (by rfl)]
  go_simp
  go_at_call 73
  refine (A_rt.out _ hHeld).mono ?_
  rintro e w7 ⟨rfl, s7⟩
  clear hHeld
  have hHeld := s7
  clear s7
  refine hK.out _ _ hHeld (fun _ => ?_)
  clear hK K
  try simp only [Act.put, List.setIfInBounds_toArray, List.set_cons_zero, List.set_cons_succ]
  refine wpAnyH_take (i := 61) (oi := ⟨some 66, .pick (.tmp 60) (.tmp 65) (.const (.bool false)), 4, "check.go:115", #[⟨55, .data⟩, ⟨60, .data⟩], none⟩) (v := ?v61) rfl (by kernel_rfl) (by kernel_rfl) (by kernel_rfl) (fun _ _ _ h => h) (Or.inl ⟨by rfl, ?hy61⟩) hHeld ?rest61
  case hy61 => (intro W hSW; unfold RtS at hSW; go_simp; try with_reducible rfl)
  try simp only [Act.put, List.setIfInBounds_toArray, List.set_cons_zero, List.set_cons_succ]
  refine wpAnyH_take (i := 62) (oi := ⟨some 67, .move (.tmp 66), 4, "check.go:115", #[⟨61, .data⟩, ⟨60, .chain⟩], none⟩) (v := ?v62) rfl (by kernel_rfl) (by kernel_rfl) (by kernel_rfl) (fun _ _ _ h => h) (Or.inl ⟨by rfl, ?hy62⟩) hHeld ?rest62
  case hy62 => (intro W hSW; unfold RtS at hSW; go_simp; try with_reducible rfl)
  try simp only [Act.put, List.setIfInBounds_toArray, List.set_cons_zero, List.set_cons_succ]
  refine wpAnyH_take (i := 63) (oi := ⟨some 68, .fieldAddr 80 (.tmp 3) 6, 0, "check.go:115", #[⟨62, .guard⟩], some (62, true)⟩) (v := ?v63) rfl (by kernel_rfl) (by kernel_rfl) (by kernel_rfl) (fun _ _ _ h => h) (Or.inl ⟨by rfl, ?hy63⟩) hHeld ?rest63
  case hy63 => (intro W hSW; unfold RtS at hSW; go_simp; try with_reducible rfl)
  try simp only [Act.put, List.setIfInBounds_toArray, List.set_cons_zero, List.set_cons_succ]
  refine wpAnyH_take (i := 64) (oi := ⟨some 69, .load 33 (.tmp 68), 33, "check.go:115", #[⟨63, .data⟩, ⟨62, .guard⟩], some (62, true)⟩) (v := ?v64) rfl (by kernel_rfl) (by kernel_rfl) (by kernel_rfl) (fun _ _ _ h => h) (Or.inl ⟨by rfl, ?hy64⟩) hHeld ?rest64
  case hy64 => (intro W hSW; unfold RtS at hSW; go_simp; try with_reducible rfl)
  try simp only [Act.put, List.setIfInBounds_toArray, List.set_cons_zero, List.set_cons_succ]
  refine wpAnyH_take (i := 65) (oi := ⟨some 70, .load 51 (.tmp 2), 51, "check.go:115", #[⟨62, .guard⟩], some (62, true)⟩) (v := ?v65) rfl (by kernel_rfl) (by kernel_rfl) (by kernel_rfl) (fun _ _ _ h => h) (Or.inl ⟨by rfl, ?hy65⟩) hHeld ?rest65
  case hy65 => (intro W hSW; unfold RtS at hSW; go_simp; try with_reducible rfl)
  try simp only [Act.put, List.setIfInBounds_toArray, List.set_cons_zero, List.set_cons_succ]
  refine wpAnyH_ready (rs := [66]) (by kernel_rfl) (by simp) ?_
  refine AllReadyH.cons (o := ⟨some 71, .call { callee := .value (.func 114), args := #[.tmp 70], argTypes := #[51] }, 51, "check.go:120", #[⟨65, .data⟩, ⟨62, .chain⟩, ⟨62, .guard⟩], some (62, true)⟩) rfl (fun K hK => ?_) AllReadyH.nil
  rw [if_pos (by rfl)]
  go_simp
  go_at_call 114
  refine (A_om.out _ hHeld).mono ?_
  rintro e w7 ⟨rfl, s7⟩
  clear hHeld
  have hHeld := s7
  clear s7
  refine hK.out _ _ hHeld (fun _ => ?_)
  clear hK K
  try simp only [Act.put, List.setIfInBounds_toArray, List.set_cons_zero, List.set_cons_succ]
  refine wpAnyH_ready (rs := [67]) (by kernel_rfl) (by simp) ?_
  refine AllReadyH.cons (o := ⟨some 72, .makeFunc (.func 75) #[.tmp 71] #[], 124, "check.go:115", #[⟨66, .data⟩, ⟨62, .guard⟩], some (62, true)⟩) rfl (fun K hK => ?_) AllReadyH.nil
  rw [if_pos (by rfl)]
  go_simp
  refine hK.out _ _ hHeld (fun _ => ?_)
  clear hK K
  try simp only [Act.put, List.setIfInBounds_toArray, List.set_cons_zero, List.set_cons_succ]
  refine wpAnyH_ready (rs := [68]) (by kernel_rfl) (by simp) ?_
  refine AllReadyH.cons (o := ⟨some 73, .call { callee := .value (.func 74), args := #[.tmp 69, .tmp 72], argTypes := #[33, 124] }, 4, "check.go:120", #[⟨64, .data⟩, ⟨67, .data⟩, ⟨66, .chain⟩, ⟨62, .guard⟩], some (62, true)⟩) rfl (fun K hK => ?_) AllReadyH.nil
  rw [if_pos (by rfl)]
  go_simp
  go_at_call 74
  refine (A_bd.out _ hHeld).mono ?_
  rintro e w7 ⟨rfl, s7⟩
  clear hHeld
  have hHeld := s7
  clear s7
  refine hK.out _ _ hHeld (fun _ => ?_)
  clear hK K
  try simp only [Act.put, List.setIfInBounds_toArray, List.set_cons_zero, List.set_cons_succ]
  refine wpAnyH_take (i := 69) (oi := ⟨some 74, .pick (.tmp 67) (.tmp 73) (.const (.bool false)), 4, "check.go:115", #[⟨62, .data⟩, ⟨68, .data⟩], none⟩) (v := ?v69) rfl (by kernel_rfl) (by kernel_rfl) (by kernel_rfl) (fun _ _ _ h => h) (Or.inl ⟨by rfl, ?hy69⟩) hHeld ?rest69
  case hy69 => (intro W hSW; unfold RtS at hSW; go_simp; try with_reducible rfl)
  try simp only [Act.put, List.setIfInBounds_toArray, List.set_cons_zero, List.set_cons_succ]
  refine wpAnyH_take (i := 70) (oi := ⟨some 75, .move (.tmp 74), 4, "check.go:115", #[⟨69, .data⟩, ⟨68, .chain⟩], none⟩) (v := ?v70) rfl (by kernel_rfl) (by kernel_rfl) (by kernel_rfl) (fun _ _ _ h => h) (Or.inl ⟨by rfl, ?hy70⟩) hHeld ?rest70
  case hy70 => (intro W hSW; unfold RtS at hSW; go_simp; try with_reducible rfl)
  try simp only [Act.put, List.setIfInBounds_toArray, List.set_cons_zero, List.set_cons_succ]
  refine wpAnyH_take (i := 71) (oi := ⟨some 76, .load 51 (.tmp 2), 51, "check.go:115", #[⟨70, .guard⟩], some (70, true)⟩) (v := ?v71) rfl (by kernel_rfl) (by kernel_rfl) (by kernel_rfl) (fun _ _ _ h => h) (Or.inl ⟨by rfl, ?hy71⟩) hHeld ?rest71
  case hy71 => (intro W hSW; unfold RtS at hSW; go_simp; try with_reducible rfl)
  try simp only [Act.put, List.setIfInBounds_toArray, List.set_cons_zero, List.set_cons_succ]
  refine wpAnyH_take (i := 72) (oi := ⟨some 77, .fieldAddr 80 (.tmp 3) 7, 0, "check.go:115", #[⟨70, .guard⟩], some (70, true)⟩) (v := ?v72) rfl (by kernel_rfl) (by kernel_rfl) (by kernel_rfl) (fun _ _ _ h => h) (Or.inl ⟨by rfl, ?hy72⟩) hHeld ?rest72
  case hy72 => (intro W hSW; unfold RtS at hSW; go_simp; try with_reducible rfl)
  try simp only [Act.put, List.setIfInBounds_toArray, List.set_cons_zero, List.set_cons_succ]
  refine wpAnyH_take (i := 73) (oi := ⟨some 78, .load 29 (.tmp 77), 29, "check.go:115", #[⟨72, .data⟩, ⟨70, .guard⟩], some (70, true)⟩) (v := ?v73) rfl (by kernel_rfl) (by kernel_rfl) (by kernel_rfl) (fun _ _ _ h => h) (Or.inl ⟨by rfl, ?hy73⟩) hHeld ?rest73
  case hy73 => (intro W hSW; unfold RtS at hSW; go_simp; try with_reducible rfl)
  try simp only [Act.put, List.setIfInBounds_toArray, List.set_cons_zero, List.set_cons_succ]
  refine wpAnyH_ready (rs := [74]) (by kernel_rfl) (by simp) ?_
  refine AllReadyH.cons (o := ⟨some 79, .buildSlice 147 1 #[(0, .tmp 78)], 147, "check.go:115", #[⟨73, .data⟩, ⟨70, .guard⟩], some (70, true)⟩) rfl (fun K hK => ?_) AllReadyH.nil
  rw [if_pos (by rfl)]
  go_simp
  have hNew := hHeld.step ((Below.refl _ _).alloc (Nat.le_refl _) (.cells #[.slice ena en.length enc] 29))
  have hBlk := heap_new w7 (.cells #[.slice ena en.length enc] 29)
  clear hHeld
  have hHeld := hNew
  clear hNew
  refine hK.out _ _ hHeld (fun _ => ?_)
  clear hK K
  try simp only [Act.put, List.setIfInBounds_toArray, List.set_cons_zero, List.set_cons_succ]
  refine wpAnyH_ready (rs := [75]) (by kernel_rfl) (by simp) ?_
  refine AllReadyH.cons (o := ⟨some 80, .call { callee := .value (.func 68), args := #[.tmp 76, .tmp 79], argTypes := #[51, 147] }, 4, "check.go:120", #[⟨71, .data⟩, ⟨74, .data⟩, ⟨70, .chain⟩, ⟨70, .guard⟩], some (70, true)⟩) rfl (fun K hK => ?_) AllReadyH.nil
  rw [if_pos (by rfl)]
  go_simp
  go_at_call 68
  refine (A_nt.out _ _ _ hHeld hBlk).mono ?_
  rintro e w8 ⟨rfl, s7⟩
  clear hHeld
  have hHeld := s7
  clear s7
  refine hK.out _ _ hHeld (fun _ => ?_)
  clear hK K
  try simp only [Act.put, List.setIfInBounds_toArray, List.set_cons_zero, List.set_cons_succ]
  refine wpAnyH_take (i := 76) (oi := ⟨some 81, .pick (.tmp 75) (.tmp 80) (.const (.bool false)), 4, "check.go:115", #[⟨70, .data⟩, ⟨75, .data⟩], none⟩) (v := ?v76) rfl (by kernel_rfl) (by kernel_rfl) (by kernel_rfl) (fun _ _ _ h => h) (Or.inl ⟨by rfl, ?hy76⟩) hHeld ?rest76
  case hy76 => (intro W hSW; unfold RtS at hSW; go_simp; try with_reducible rfl)
  try simp only [Act.put, List.setIfInBounds_toArray, List.set_cons_zero, List.set_cons_succ]
  refine wpAnyH_take (i := 77) (oi := ⟨some 4, .assign (.tmp 81), 4, "check.go:115", ([⟨76, .data⟩, ⟨75, .chain⟩, ⟨0, .phase⟩, ⟨1, .phase⟩, ⟨2, .phase⟩, ⟨3, .phase⟩, ⟨4, .phase⟩, ⟨5, .phase⟩, ⟨6, .phase⟩, ⟨7, .phase⟩, ⟨8, .phase⟩, ⟨9, .phase⟩, ⟨10, .phase⟩, ⟨11, .phase⟩, ⟨12, .phase⟩, ⟨13, .phase⟩, ⟨14, .phase⟩, ⟨15, .phase⟩, ⟨16, .phase⟩, ⟨17, .phase⟩, ⟨18, .phase⟩, ⟨19, .phase⟩, ⟨20, .phase⟩, ⟨21, .phase⟩, ⟨22, .phase⟩, ⟨23, .phase⟩, ⟨24, .phase⟩, ⟨25, .phase⟩, ⟨26, .phase⟩, ⟨27, .phase⟩, ⟨28, .phase⟩, ⟨29, .phase⟩, ⟨30, .phase⟩, ⟨31, .phase⟩, ⟨32, .phase⟩, ⟨33, .phase⟩, ⟨34, .phase⟩, ⟨35, .phase⟩, ⟨36, .phase⟩].append [⟨37, .phase⟩, ⟨38, .phase⟩, ⟨39, .phase⟩, ⟨40, .phase⟩, ⟨41, .phase⟩, ⟨42, .phase⟩, ⟨43, .phase⟩, ⟨44, .phase⟩, ⟨45, .phase⟩, ⟨46, .phase⟩, ⟨47, .phase⟩, ⟨48, .phase⟩, ⟨49, .phase⟩, ⟨50, .phase⟩, ⟨51, .phase⟩, ⟨52, .phase⟩, ⟨53, .phase⟩, ⟨54, .phase⟩, ⟨55, .phase⟩, ⟨56, .phase⟩, ⟨57, .phase⟩, ⟨58, .phase⟩, ⟨59, .phase⟩, ⟨60, .phase⟩, ⟨61, .phase⟩, ⟨62, .phase⟩, ⟨63, .phase⟩, ⟨64, .phase⟩, ⟨65, .phase⟩, ⟨66, .phase⟩, ⟨67, .phase⟩, ⟨68, .phase⟩, ⟨69, .phase⟩, ⟨70, .phase⟩, ⟨71, .phase⟩, ⟨72, .phase⟩, ⟨73, .phase⟩, ⟨74, .phase⟩, ⟨75, .phase⟩, ⟨76, .phase⟩]).toArray, none⟩) (v := ?v77) rfl (by kernel_rfl) (by kernel_rfl) (by kernel_rfl) (fun _ _ _ h => h) (Or.inl ⟨by rfl, ?hy77⟩) hHeld ?rest77
  case hy77 => (intro W hSW; unfold RtS at hSW; go_simp; try with_reducible rfl)
  try simp only [Act.put, List.setIfInBounds_toArray, List.set_cons_zero, List.set_cons_succ]
  refine wpAnyH_done (by kernel_rfl) ?_ _
  have HS := Lib.hid hHeld
  clear hHeld
  go_wp2_with fail
  go_ret
  exact ⟨rfl, HS.out.since⟩
set_option maxRecDepth 100000 in
set_option maxHeartbeats 32000000 in
theorem rt_01 (w0 : World) (ar : Nat) (m0 m1 : List (List D)) (nm : ByteArray) (rs : Int) (ps vr inn bd en : List (List D)) (m0a : Option Addr) (m0c : Nat) (m1a : Option Addr) (m1c : Nat) (psa : Option Addr) (psc : Nat) (vra : Option Addr) (vrc : Nat) (ina : Option Addr) (inc : Nat) (bda : Option Addr) (bdc : Nat) (ena : Option Addr) (enc : Nat) (b9 : Bool)
    (h_td : Says w0 60 #[.agg #[.int .i64 1, .int .i64 ar]] (.bool false))
    (h_mk : Says w0 105 #[.agg #[.int .i64 1, .int .i64 ar], .agg #[.slice m0a m0.length m0c, .slice m1a m1.length m1c]] (.bool true))
    (h_rn : Says w0 98 #[.agg #[.int .i64 1, .int .i64 ar], .string nm] (.bool true))
    (h_is : Says w0 136 #[.int .i64 rs] (.bool true))
    (h_ps : Says w0 137 #[.slice psa ps.length psc, .func (.func 138) #[.agg #[.int .i64 1, .int .i64 ar]] #[]] (.bool true))
    (h_up : Says w0 139 #[.slice psa ps.length psc] (.bool true))
    (h_vr : Says w0 71 #[.slice vra vr.length vrc, .func (.func 72) #[.agg #[.int .i64 1, .int .i64 ar]] #[]] (.bool true))
    (h_dp : Says w0 65 #[.agg #[.int .i64 1, .int .i64 ar]] (.agg #[.int .i64 1, .int .i64 ((ar + 1 : Nat) : Int)]))
    (h_rt : Says w0 73 #[.agg #[.int .i64 1, .int .i64 ((ar + 1 : Nat) : Int)], .slice ina inn.length inc] (.bool true))
    (h_om : Says w0 114 #[.agg #[.int .i64 1, .int .i64 ar]] (.agg #[.int .i64 1, .int .i64 0]))
    (h_bd : Says w0 74 #[.slice bda bd.length bdc, .func (.func 75) #[.agg #[.int .i64 1, .int .i64 0]] #[]] (.bool true))
    (h_nt : ∀ (b T : Nat) (W : World), Below w0.heap.size w0 W → W.heap[b]? = some (.cells #[.slice ena en.length enc] T) → Calls Tryz.prog 68 #[.agg #[.int .i64 1, .int .i64 ar], .slice (some ⟨b, 0, none⟩) 1 1] W fun e W' => e = .returned (.bool b9) ∧ Below W.heap.size W W')
    (hz : (rs == 0) = false) (hin : inn.length = 0) (w : World) (hW : Below w0.heap.size w0 w) :
    Calls Tryz.prog 110 #[.agg #[.int .i64 1, .int .i64 ar], .agg #[.slice m0a m0.length m0c, .slice m1a m1.length m1c, .string nm, .int .i64 rs, .slice psa ps.length psc, .slice vra vr.length vrc, .slice ina inn.length inc, .slice bda bd.length bdc, .slice ena en.length enc]] w fun e w' => e = .returned (.bool b9) ∧ Below w.heap.size w w' := by
  have K_nt := Lib.hid h_nt
  clear h_nt
  have g1 : ((inn.length : Int) == 0) = true := by rw [beq_iff_eq]; omega
  have g2 : (inn.length == 0) = true := by rw [beq_iff_eq]; omega
  clear hin
  have K_td := Lib.hid h_td
  have K_mk := Lib.hid h_mk
  have K_rn := Lib.hid h_rn
  have K_is := Lib.hid h_is
  have K_ps := Lib.hid h_ps
  have K_up := Lib.hid h_up
  have K_vr := Lib.hid h_vr
  have K_dp := Lib.hid h_dp
  have K_rt := Lib.hid h_rt
  have K_om := Lib.hid h_om
  have K_bd := Lib.hid h_bd
  have HW := Lib.hid hW
  have S0 := Lib.hid (Bx2.start w (.cells #[.int .i64 1, .int .i64 ar] 51) (.cells #[.slice m0a m0.length m0c, .slice m1a m1.length m1c, .string nm, .int .i64 rs, .slice psa ps.length psc, .slice vra vr.length vrc, .slice ina inn.length inc, .slice bda bd.length bdc, .slice ena en.length enc] 80))
  clear hW h_td h_mk h_rn h_is h_ps h_up h_vr h_dp h_rt h_om h_bd
  go_enter Tryz.func110, Tryz.ntmps110
  go_wp2_with fail
  obtain ⟨w2, hw2⟩ : ∃ w2, w2 = (w.alloc (.cells #[.int .i64 1, .int .i64 ar] 51)).alloc (.cells #[.slice m0a m0.length m0c, .slice m1a m1.length m1c, .string nm, .int .i64 rs, .slice psa ps.length psc, .slice vra vr.length vrc, .slice ina inn.length inc, .slice bda bd.length bdc, .slice ena en.length enc] 80) := ⟨_, rfl⟩
  rw [← hw2] at S0 ⊢
  have HSZ := Lib.hid hw2
  clear hw2
  have HS0 := Lib.hid (show RtS w 1 ar m0 m1 nm rs ps vr inn bd en m0a m0c m1a m1c psa psc vra vrc ina inc bda bdc ena enc w2.drew from by
    have cP := box_cells S0.out.a
    have cQ := box_cells S0.out.b
    exact ⟨cP 0, cP 1, cQ 0, cQ 1, cQ 2, cQ 3, cQ 4, cQ 5, cQ 6, cQ 7, cQ 8, below_drew0 S0.out.bel⟩)
  have A_td := Lib.hid (show ∀ W, RtS w 1 ar m0 m1 nm rs ps vr inn bd en m0a m0c m1a m1c psa psc vra vrc ina inc bda bdc ena enc W → Calls Tryz.prog 60 #[.agg #[.int .i64 1, .int .i64 ar]] W fun e W' => e = .returned (.bool false) ∧ RtS w 1 ar m0 m1 nm rs ps vr inn bd en m0a m0c m1a m1c psa psc vra vrc ina inc bda bdc ena enc W' from fun W hS => (K_td.out W (HW.out.trans (hS.since.mono HW.out.size))).mono fun e W' h => ⟨h.1, hS.step h.2⟩)
  have A_mk := Lib.hid (show ∀ W, RtS w 1 ar m0 m1 nm rs ps vr inn bd en m0a m0c m1a m1c psa psc vra vrc ina inc bda bdc ena enc W → Calls Tryz.prog 105 #[.agg #[.int .i64 1, .int .i64 ar], .agg #[.slice m0a m0.length m0c, .slice m1a m1.length m1c]] W fun e W' => e = .returned (.bool true) ∧ RtS w 1 ar m0 m1 nm rs ps vr inn bd en m0a m0c m1a m1c psa psc vra vrc ina inc bda bdc ena enc W' from fun W hS => (K_mk.out W (HW.out.trans (hS.since.mono HW.out.size))).mono fun e W' h => ⟨h.1, hS.step h.2⟩)
  have A_rn := Lib.hid (show ∀ W, RtS w 1 ar m0 m1 nm rs ps vr inn bd en m0a m0c m1a m1c psa psc vra vrc ina inc bda bdc ena enc W → Calls Tryz.prog 98 #[.agg #[.int .i64 1, .int .i64 ar], .string nm] W fun e W' => e = .returned (.bool true) ∧ RtS w 1 ar m0 m1 nm rs ps vr inn bd en m0a m0c m1a m1c psa psc vra vrc ina inc bda bdc ena enc W' from fun W hS => (K_rn.out W (HW.out.trans (hS.since.mono HW.out.size))).mono fun e W' h => ⟨h.1, hS.step h.2⟩)
  have A_is := Lib.hid (show ∀ W, RtS w 1 ar m0 m1 nm rs ps vr inn bd en m0a m0c m1a m1c psa psc vra vrc ina inc bda bdc ena enc W → Calls Tryz.prog 136 #[.int .i64 rs] W fun e W' => e = .returned (.bool true) ∧ RtS w 1 ar m0 m1 nm rs ps vr inn bd en m0a m0c m1a m1c psa psc vra vrc ina inc bda bdc ena enc W' from fun W hS => (K_is.out W (HW.out.trans (hS.since.mono HW.out.size))).mono fun e W' h => ⟨h.1, hS.step h.2⟩)
  have A_ps := Lib.hid (show ∀ W, RtS w 1 ar m0 m1 nm rs ps vr inn bd en m0a m0c m1a m1c psa psc vra vrc ina inc bda bdc ena enc W → Calls Tryz.prog 137 #[.slice psa ps.length psc, .func (.func 138) #[.agg #[.int .i64 1, .int .i64 ar]] #[]] W fun e W' => e = .returned (.bool true) ∧ RtS w 1 ar m0 m1 nm rs ps vr inn bd en m0a m0c m1a m1c psa psc vra vrc ina inc bda bdc ena enc W' from fun W hS => (K_ps.out W (HW.out.trans (hS.since.mono HW.out.size))).mono fun e W' h => ⟨h.1, hS.step h.2⟩)
  have A_up := Lib.hid (show ∀ W, RtS w 1 ar m0 m1 nm rs ps vr inn bd en m0a m0c m1a m1c psa psc vra vrc ina inc bda bdc ena enc W → Calls Tryz.prog 139 #[.slice psa ps.length psc] W fun e W' => e = .returned (.bool true) ∧ RtS w 1 ar m0 m1 nm rs ps vr inn bd en m0a m0c m1a m1c psa psc vra vrc ina inc bda bdc ena enc W' from fun W hS => (K_up.out W (HW.out.trans (hS.since.mono HW.out.size))).mono fun e W' h => ⟨h.1, hS.step h.2⟩)
  have A_vr := Lib.hid (show ∀ W, RtS w 1 ar m0 m1 nm rs ps vr inn bd en m0a m0c m1a m1c psa psc vra vrc ina inc bda bdc ena enc W → Calls Tryz.prog 71 #[.slice vra vr.length vrc, .func (.func 72) #[.agg #[.int .i64 1, .int .i64 ar]] #[]] W fun e W' => e = .returned (.bool true) ∧ RtS w 1 ar m0 m1 nm rs ps vr inn bd en m0a m0c m1a m1c psa psc vra vrc ina inc bda bdc ena enc W' from fun W hS => (K_vr.out W (HW.out.trans (hS.since.mono HW.out.size))).mono fun e W' h => ⟨h.1, hS.step h.2⟩)
  have A_dp := Lib.hid (show ∀ W, RtS w 1 ar m0 m1 nm rs ps vr inn bd en m0a m0c m1a m1c psa psc vra vrc ina inc bda bdc ena enc W → Calls Tryz.prog 65 #[.agg #[.int .i64 1, .int .i64 ar]] W fun e W' => e = .returned (.agg #[.int .i64 1, .int .i64 ((ar + 1 : Nat) : Int)]) ∧ RtS w 1 ar m0 m1 nm rs ps vr inn bd en m0a m0c m1a m1c psa psc vra vrc ina inc bda bdc ena enc W' from fun W hS => (K_dp.out W (HW.out.trans (hS.since.mono HW.out.size))).mono fun e W' h => ⟨h.1, hS.step h.2⟩)
  have A_rt := Lib.hid (show ∀ W, RtS w 1 ar m0 m1 nm rs ps vr inn bd en m0a m0c m1a m1c psa psc vra vrc ina inc bda bdc ena enc W → Calls Tryz.prog 73 #[.agg #[.int .i64 1, .int .i64 ((ar + 1 : Nat) : Int)], .slice ina inn.length inc] W fun e W' => e = .returned (.bool true) ∧ RtS w 1 ar m0 m1 nm rs ps vr inn bd en m0a m0c m1a m1c psa psc vra vrc ina inc bda bdc ena enc W' from fun W hS => (K_rt.out W (HW.out.trans (hS.since.mono HW.out.size))).mono fun e W' h => ⟨h.1, hS.step h.2⟩)
  have A_om := Lib.hid (show ∀ W, RtS w 1 ar m0 m1 nm rs ps vr inn bd en m0a m0c m1a m1c psa psc vra vrc ina inc bda bdc ena enc W → Calls Tryz.prog 114 #[.agg #[.int .i64 1, .int .i64 ar]] W fun e W' => e = .returned (.agg #[.int .i64 1, .int .i64 0]) ∧ RtS w 1 ar m0 m1 nm rs ps vr inn bd en m0a m0c m1a m1c psa psc vra vrc ina inc bda bdc ena enc W' from fun W hS => (K_om.out W (HW.out.trans (hS.since.mono HW.out.size))).mono fun e W' h => ⟨h.1, hS.step h.2⟩)
  have A_bd := Lib.hid (show ∀ W, RtS w 1 ar m0 m1 nm rs ps vr inn bd en m0a m0c m1a m1c psa psc vra vrc ina inc bda bdc ena enc W → Calls Tryz.prog 74 #[.slice bda bd.length bdc, .func (.func 75) #[.agg #[.int .i64 1, .int .i64 0]] #[]] W fun e W' => e = .returned (.bool true) ∧ RtS w 1 ar m0 m1 nm rs ps vr inn bd en m0a m0c m1a m1c psa psc vra vrc ina inc bda bdc ena enc W' from fun W hS => (K_bd.out W (HW.out.trans (hS.since.mono HW.out.size))).mono fun e W' h => ⟨h.1, hS.step h.2⟩)
  have A_nt := Lib.hid (show ∀ (b T : Nat) (W : World), RtS w 1 ar m0 m1 nm rs ps vr inn bd en m0a m0c m1a m1c psa psc vra vrc ina inc bda bdc ena enc W → W.heap[b]? = some (.cells #[.slice ena en.length enc] T) → Calls Tryz.prog 68 #[.agg #[.int .i64 1, .int .i64 ar], .slice (some ⟨b, 0, none⟩) 1 1] W fun e W' => e = .returned (.bool b9) ∧ RtS w 1 ar m0 m1 nm rs ps vr inn bd en m0a m0c m1a m1c psa psc vra vrc ina inc bda bdc ena enc W' from fun b T W hS hb => (K_nt.out b T W (HW.out.trans (hS.since.mono HW.out.size)) hb).mono fun e W' h => ⟨h.1, hS.step h.2⟩)
  clear S0 HSZ HW K_nt K_td K_mk K_rn K_is K_ps K_up K_vr K_dp K_rt K_om K_bd
  refine wp_region_held (ops := ops110) (S := RtS w 1 ar m0 m1 nm rs ps vr inn bd en m0a m0c m1a m1c psa psc vra vrc ina inc bda bdc ena enc) (by kernel_rfl) ?_
  have hHeld := HS0.out
  clear HS0
  refine wpAnyH_take (i := 0) (oi := ⟨some 5, .load 51 (.tmp 2), 51, "check.go:115", #[], none⟩) (v := ?v0) rfl (by kernel_rfl) (by kernel_rfl) (by kernel_rfl) (fun _ _ _ h => h) (Or.inl ⟨by rfl, ?hy0⟩) hHeld ?rest0
  case hy0 => (intro W hSW; unfold RtS at hSW; go_simp; try with_reducible rfl)
  try simp only [Act.put, List.setIfInBounds_toArray, List.set_cons_zero, List.set_cons_succ]
  refine wpAnyH_ready (rs := [1]) (by kernel_rfl) (by simp) ?_
  refine AllReadyH.cons (o := ⟨some 6, .call { callee := .value (.func 60), args := #[.tmp 5], argTypes := #[51] }, 4, "check.go:115", #[⟨0, .data⟩], none⟩) rfl (fun K hK => ?_) AllReadyH.nil
  rw [if_pos (by rfl)]
  go_simp
  go_at_call 60
  refine (A_td.out _ hHeld).mono ?_
  rintro e w7 ⟨rfl, s7⟩
  clear hHeld
  have hHeld := s7
  clear s7
  refine hK.out _ _ hHeld (fun _ => ?_)
  clear hK K
  try simp only [Act.put, List.setIfInBounds_toArray, List.set_cons_zero, List.set_cons_succ]
  refine wpAnyH_take (i := 2) (oi := ⟨some 7, .unOp .not 4 (.tmp 6), 4, "check.go:115", #[⟨1, .data⟩], none⟩) (v := ?v2) rfl (by kernel_rfl) (by kernel_rfl) (by kernel_rfl) (fun _ _ _ h => h) (Or.inl ⟨by rfl, ?hy2⟩) hHeld ?rest2
  case hy2 => (intro W hSW; unfold RtS at hSW; go_simp; try with_reducible rfl)
  try simp only [Act.put, List.setIfInBounds_toArray, List.set_cons_zero, List.set_cons_succ]
  refine wpAnyH_take (i := 3) (oi := ⟨some 8, .move (.tmp 7), 4, "check.go:115", #[⟨2, .data⟩, ⟨1, .chain⟩], none⟩) (v := ?v3) rfl (by kernel_rfl) (by kernel_rfl) (by kernel_rfl) (fun _ _ _ h => h) (Or.inl ⟨by rfl, ?hy3⟩) hHeld ?rest3
  case hy3 => (intro W hSW; unfold RtS at hSW; go_simp; try with_reducible rfl)
  try simp only [Act.put, List.setIfInBounds_toArray, List.set_cons_zero, List.set_cons_succ]
  refine wpAnyH_take (i := 4) (oi := ⟨some 9, .load 51 (.tmp 2), 51, "check.go:115", #[⟨3, .guard⟩], some (3, true)⟩) (v := ?v4) rfl (by kernel_rfl) (by kernel_rfl) (by kernel_rfl) (fun _ _ _ h => h) (Or.inl ⟨by rfl, ?hy4⟩) hHeld ?rest4
  case hy4 => (intro W hSW; unfold RtS at hSW; go_simp; try with_reducible rfl)
  try simp only [Act.put, List.setIfInBounds_toArray, List.set_cons_zero, List.set_cons_succ]
  refine wpAnyH_take (i := 5) (oi := ⟨some 10, .fieldAddr 80 (.tmp 3) 0, 0, "check.go:115", #[⟨3, .guard⟩], some (3, true)⟩) (v := ?v5) rfl (by kernel_rfl) (by kernel_rfl) (by kernel_rfl) (fun _ _ _ h => h) (Or.inl ⟨by rfl, ?hy5⟩) hHeld ?rest5
  case hy5 => (intro W hSW; unfold RtS at hSW; go_simp; try with_reducible rfl)
  try simp only [Act.put, List.setIfInBounds_toArray, List.set_cons_zero, List.set_cons_succ]
  refine wpAnyH_take (i := 6) (oi := ⟨some 11, .load 59 (.tmp 10), 59, "check.go:115", #[⟨5, .data⟩, ⟨3, .guard⟩], some (3, true)⟩) (v := ?v6) rfl (by kernel_rfl) (by kernel_rfl) (by kernel_rfl) (fun _ _ _ h => h) (Or.inl ⟨by rfl, ?hy6⟩) hHeld ?rest6
  case hy6 => (intro W hSW; unfold RtS at hSW; go_simp; try with_reducible rfl)
  try simp only [Act.put, List.setIfInBounds_toArray, List.set_cons_zero, List.set_cons_succ]
  refine wpAnyH_ready (rs := [7]) (by kernel_rfl) (by simp) ?_
  refine AllReadyH.cons (o := ⟨some 12, .call { callee := .value (.func 105), args := #[.tmp 9, .tmp 11], argTypes := #[51, 59] }, 4, "check.go:115", #[⟨4, .data⟩, ⟨6, .data⟩, ⟨3, .chain⟩, ⟨3, .guard⟩], some (3, true)⟩) rfl (fun K hK => ?_) AllReadyH.nil
  rw [if_pos (by rfl)]
  go_simp
  go_at_call 105
  refine (A_mk.out _ hHeld).mono ?_
  rintro e w7 ⟨rfl, s7⟩
  clear hHeld
  have hHeld := s7
  clear s7
  refine hK.out _ _ hHeld (fun _ => ?_)
  clear hK K
  try simp only [Act.put, List.setIfInBounds_toArray, List.set_cons_zero, List.set_cons_succ]
  refine wpAnyH_take (i := 8) (oi := ⟨some 13, .pick (.tmp 8) (.tmp 12) (.const (.bool false)), 4, "check.go:115", #[⟨3, .data⟩, ⟨7, .data⟩], none⟩) (v := ?v8) rfl (by kernel_rfl) (by kernel_rfl) (by kernel_rfl) (fun _ _ _ h => h) (Or.inl ⟨by rfl, ?hy8⟩) hHeld ?rest8
  case hy8 => (intro W hSW; unfold RtS at hSW; go_simp; try with_reducible rfl)
  try simp only [Act.put, List.setIfInBounds_toArray, List.set_cons_zero, List.set_cons_succ]
  refine wpAnyH_take (i := 9) (oi := ⟨some 14, .move (.tmp 13), 4, "check.go:115", #[⟨8, .data⟩, ⟨7, .chain⟩], none⟩) (v := ?v9) rfl (by kernel_rfl) (by kernel_rfl) (by kernel_rfl) (fun _ _ _ h => h) (Or.inl ⟨by rfl, ?hy9⟩) hHeld ?rest9
  case hy9 => (intro W hSW; unfold RtS at hSW; go_simp; try with_reducible rfl)
  try simp only [Act.put, List.setIfInBounds_toArray, List.set_cons_zero, List.set_cons_succ]
  refine wpAnyH_take (i := 10) (oi := ⟨some 15, .load 51 (.tmp 2), 51, "check.go:115", #[⟨9, .guard⟩], some (9, true)⟩) (v := ?v10) rfl (by kernel_rfl) (by kernel_rfl) (by kernel_rfl) (fun _ _ _ h => h) (Or.inl ⟨by rfl, ?hy10⟩) hHeld ?rest10
  case hy10 => (intro W hSW; unfold RtS at hSW; go_simp; try with_reducible rfl)
  try simp only [Act.put, List.setIfInBounds_toArray, List.set_cons_zero, List.set_cons_succ]
  refine wpAnyH_take (i := 11) (oi := ⟨some 16, .fieldAddr 80 (.tmp 3) 1, 0, "check.go:115", #[⟨9, .guard⟩], some (9, true)⟩) (v := ?v11) rfl (by kernel_rfl) (by kernel_rfl) (by kernel_rfl) (fun _ _ _ h => h) (Or.inl ⟨by rfl, ?hy11⟩) hHeld ?rest11
  case hy11 => (intro W hSW; unfold RtS at hSW; go_simp; try with_reducible rfl)
  try simp only [Act.put, List.setIfInBounds_toArray, List.set_cons_zero, List.set_cons_succ]
  refine wpAnyH_take (i := 12) (oi := ⟨some 17, .load 9 (.tmp 16), 9, "check.go:115", #[⟨11, .data⟩, ⟨9, .guard⟩], some (9, true)⟩) (v := ?v12) rfl (by kernel_rfl) (by kernel_rfl) (by kernel_rfl) (fun _ _ _ h => h) (Or.inl ⟨by rfl, ?hy12⟩) hHeld ?rest12
  case hy12 => (intro W hSW; unfold RtS at hSW; go_simp; try with_reducible rfl)
  try simp only [Act.put, List.setIfInBounds_toArray, List.set_cons_zero, List.set_cons_succ]
  refine wpAnyH_ready (rs := [13]) (by kernel_rfl) (by simp) ?_
  refine AllReadyH.cons (o := ⟨some 18, .call { callee := .value (.func 98), args := #[.tmp 15, .tmp 17], argTypes := #[51, 9] }, 4, "check.go:115", #[⟨10, .data⟩, ⟨12, .data⟩, ⟨9, .chain⟩, ⟨9, .guard⟩], some (9, true)⟩) rfl (fun K hK => ?_) AllReadyH.nil
  rw [if_pos (by rfl)]
  go_simp
  go_at_call 98
  refine (A_rn.out _ hHeld).mono ?_
  rintro e w7 ⟨rfl, s7⟩
  clear hHeld
  have hHeld := s7
  clear s7
  refine hK.out _ _ hHeld (fun _ => ?_)
  clear hK K
  try simp only [Act.put, List.setIfInBounds_toArray, List.set_cons_zero, List.set_cons_succ]
  refine wpAnyH_take (i := 14) (oi := ⟨some 19, .pick (.tmp 14) (.tmp 18) (.const (.bool false)), 4, "check.go:115", #[⟨9, .data⟩, ⟨13, .data⟩], none⟩) (v := ?v14) rfl (by kernel_rfl) (by kernel_rfl) (by kernel_rfl) (fun _ _ _ h => h) (Or.inl ⟨by rfl, ?hy14⟩) hHeld ?rest14
  case hy14 => (intro W hSW; unfold RtS at hSW; go_simp; try with_reducible rfl)
  try simp only [Act.put, List.setIfInBounds_toArray, List.set_cons_zero, List.set_cons_succ]
  refine wpAnyH_take (i := 15) (oi := ⟨some 20, .move (.tmp 19), 4, "check.go:115", #[⟨14, .data⟩, ⟨13, .chain⟩], none⟩) (v := ?v15) rfl (by kernel_rfl) (by kernel_rfl) (by kernel_rfl) (fun _ _ _ h => h) (Or.inl ⟨by rfl, ?hy15⟩) hHeld ?rest15
  case hy15 => (intro W hSW; unfold RtS at hSW; go_simp; try with_reducible rfl)
  try simp only [Act.put, List.setIfInBounds_toArray, List.set_cons_zero, List.set_cons_succ]
  refine wpAnyH_take (i := 16) (oi := ⟨some 21, .fieldAddr 80 (.tmp 3) 2, 0, "check.go:115", #[⟨15, .guard⟩], some (15, true)⟩) (v := ?v16) rfl (by kernel_rfl) (by kernel_rfl) (by kernel_rfl) (fun _ _ _ h => h) (Or.inl ⟨by rfl, ?hy16⟩) hHeld ?rest16
  case hy16 => (intro W hSW; unfold RtS at hSW; go_simp; try with_reducible rfl)
  try simp only [Act.put, List.setIfInBounds_toArray, List.set_cons_zero, List.set_cons_succ]
  refine wpAnyH_take (i := 17) (oi := ⟨some 22, .load 3 (.tmp 21), 3, "check.go:115", #[⟨16, .data⟩, ⟨15, .guard⟩], some (15, true)⟩) (v := ?v17) rfl (by kernel_rfl) (by kernel_rfl) (by kernel_rfl) (fun _ _ _ h => h) (Or.inl ⟨by rfl, ?hy17⟩) hHeld ?rest17
  case hy17 => (intro W hSW; unfold RtS at hSW; go_simp; try with_reducible rfl)
  try simp only [Act.put, List.setIfInBounds_toArray, List.set_cons_zero, List.set_cons_succ]
  refine wpAnyH_take (i := 18) (oi := ⟨some 23, .binOp .eql 3 (.tmp 22) (.const (.int .i64 0)) 3, 4, "check.go:115", #[⟨17, .data⟩, ⟨15, .guard⟩], some (15, true)⟩) (v := ?v18) rfl (by kernel_rfl) (by kernel_rfl) (by kernel_rfl) (fun _ _ _ h => h) (Or.inl ⟨by rfl, ?hy18⟩) hHeld ?rest18
  case hy18 => (intro W hSW; unfold RtS at hSW; go_simp; try with_reducible rfl)
  try simp only [Act.put, List.setIfInBounds_toArray, List.set_cons_zero, List.set_cons_succ]
  refine wpAnyH_take (i := 19) (oi := ⟨some 24, .move (.tmp 23), 4, "check.go:115", #[⟨18, .data⟩, ⟨15, .chain⟩, ⟨15, .guard⟩], some (15, true)⟩) (v := ?v19) rfl (by kernel_rfl) (by kernel_rfl) (by kernel_rfl) (fun _ _ _ h => h) (Or.inl ⟨by rfl, ?hy19⟩) hHeld ?rest19
  case hy19 => (intro W hSW; unfold RtS at hSW; go_simp; try with_reducible rfl)
  try simp only [Act.put, List.setIfInBounds_toArray, List.set_cons_zero, List.set_cons_succ]
  refine wpAnyH_take (i := 20) (oi := ⟨some 25, .fieldAddr 80 (.tmp 3) 2, 0, "check.go:115", #[⟨19, .guard⟩], some (19, false)⟩) (v := ?v20) rfl (by kernel_rfl) (by kernel_rfl) (by kernel_rfl) (fun _ _ _ h => h) (Or.inl ⟨by rfl, ?hy20⟩) hHeld ?rest20
  case hy20 => (intro W hSW; unfold RtS at hSW; go_simp; try with_reducible rfl)
  try simp only [Act.put, List.setIfInBounds_toArray, List.set_cons_zero, List.set_cons_succ]
  refine wpAnyH_take (i := 21) (oi := ⟨some 26, .load 3 (.tmp 25), 3, "check.go:115", #[⟨20, .data⟩, ⟨19, .guard⟩], some (19, false)⟩) (v := ?v21) rfl (by kernel_rfl) (by kernel_rfl) (by kernel_rfl) (fun _ _ _ h => h) (Or.inl ⟨by rfl, ?hy21⟩) hHeld ?rest21
  case hy21 => (intro W hSW; unfold RtS at hSW; go_simp; try with_reducible rfl)
  try simp only [Act.put, List.setIfInBounds_toArray, List.set_cons_zero, List.set_cons_succ]
  refine wpAnyH_ready (rs := [22]) (by kernel_rfl) (by simp) ?_
  refine AllReadyH.cons (o := ⟨some 27, .call { callee := .value (.func 136), args := #[.tmp 26], argTypes := #[3] }, 4, "check.go:116", #[⟨21, .data⟩, ⟨19, .chain⟩, ⟨19, .guard⟩], some (19, false)⟩) rfl (fun K hK => ?_) AllReadyH.nil
  rw [if_pos (by rfl)]
  go_simp
  go_at_call 136
  refine (A_is.out _ hHeld).mono ?_
  rintro e w7 ⟨rfl, s7⟩
  clear hHeld
  have hHeld := s7
  clear s7
  refine hK.out _ _ hHeld (fun _ => ?_)
  clear hK K
  try simp only [Act.put, List.setIfInBounds_toArray, List.set_cons_zero, List.set_cons_succ]
  refine wpAnyH_take (i := 23) (oi := ⟨some 28, .pick (.tmp 24) (.const (.bool true)) (.tmp 27), 4, "check.go:115", #[⟨19, .data⟩, ⟨22, .data⟩, ⟨15, .guard⟩], some (15, true)⟩) (v := ?v23) rfl (by kernel_rfl) (by kernel_rfl) (by kernel_rfl) (fun _ _ _ h => h) (Or.inl ⟨by rfl, ?hy23⟩) hHeld ?rest23
  case hy23 => (intro W hSW; unfold RtS at hSW; go_simp; try with_reducible rfl)
  try simp only [Act.put, List.setIfInBounds_toArray, List.set_cons_zero, List.set_cons_succ]
  refine wpAnyH_take (i := 24) (oi := ⟨some 29, .pick (.tmp 20) (.tmp 28) (.const (.bool false)), 4, "check.go:115", #[⟨15, .data⟩, ⟨23, .data⟩], none⟩) (v := ?v24) rfl (by kernel_rfl) (by kernel_rfl) (by kernel_rfl) (fun _ _ _ h => h) (Or.inl ⟨by rfl, ?hy24⟩) hHeld ?rest24
  case hy24 => (intro W hSW; unfold RtS at hSW; go_simp; try with_reducible rfl)
  try simp only [Act.put, List.setIfInBounds_toArray, List.set_cons_zero, List.set_cons_succ]
  refine wpAnyH_take (i := 25) (oi := ⟨some 30, .move (.tmp 29), 4, "check.go:115", #[⟨24, .data⟩, ⟨22, .chain⟩], none⟩) (v := ?v25) rfl (by kernel_rfl) (by kernel_rfl) (by kernel_rfl) (fun _ _ _ h => h) (Or.inl ⟨by rfl, ?hy25⟩) hHeld ?rest25
  case hy25 => (intro W hSW; unfold RtS at hSW; go_simp; try with_reducible rfl)
  try simp only [Act.put, List.setIfInBounds_toArray, List.set_cons_zero, List.set_cons_succ]
  refine wpAnyH_take (i := 26) (oi := ⟨some 31, .fieldAddr 80 (.tmp 3) 3, 0, "check.go:115", #[⟨25, .guard⟩], some (25, true)⟩) (v := ?v26) rfl (by kernel_rfl) (by kernel_rfl) (by kernel_rfl) (fun _ _ _ h => h) (Or.inl ⟨by rfl, ?hy26⟩) hHeld ?rest26
  case hy26 => (intro W hSW; unfold RtS at hSW; go_simp; try with_reducible rfl)
  try simp only [Act.put, List.setIfInBounds_toArray, List.set_cons_zero, List.set_cons_succ]
  refine wpAnyH_take (i := 27) (oi := ⟨some 32, .load 78 (.tmp 31), 78, "check.go:115", #[⟨26, .data⟩, ⟨25, .guard⟩], some (25, true)⟩) (v := ?v27) rfl (by kernel_rfl) (by kernel_rfl) (by kernel_rfl) (fun _ _ _ h => h) (Or.inl ⟨by rfl, ?hy27⟩) hHeld ?rest27
  case hy27 => (intro W hSW; unfold RtS at hSW; go_simp; try with_reducible rfl)
  try simp only [Act.put, List.setIfInBounds_toArray, List.set_cons_zero, List.set_cons_succ]
  refine wpAnyH_take (i := 28) (oi := ⟨some 33, .load 51 (.tmp 2), 51, "check.go:115", #[⟨25, .guard⟩], some (25, true)⟩) (v := ?v28) rfl (by kernel_rfl) (by kernel_rfl) (by kernel_rfl) (fun _ _ _ h => h) (Or.inl ⟨by rfl, ?hy28⟩) hHeld ?rest28
  case hy28 => (intro W hSW; unfold RtS at hSW; go_simp; try with_reducible rfl)
  try simp only [Act.put, List.setIfInBounds_toArray, List.set_cons_zero, List.set_cons_succ]
  refine wpAnyH_ready (rs := [29]) (by kernel_rfl) (by simp) ?_
  refine AllReadyH.cons (o := ⟨some 34, .makeFunc (.func 138) #[.tmp 33] #[], 179, "check.go:115", #[⟨28, .data⟩, ⟨25, .guard⟩], some (25, true)⟩) rfl (fun K hK => ?_) AllReadyH.nil
  rw [if_pos (by rfl)]
  go_simp
  refine hK.out _ _ hHeld (fun _ => ?_)
  clear hK K
  try simp only [Act.put, List.setIfInBounds_toArray, List.set_cons_zero, List.set_cons_succ]
  refine wpAnyH_ready (rs := [30]) (by kernel_rfl) (by simp) ?_
  refine AllReadyH.cons (o := ⟨some 35, .call { callee := .value (.func 137), args := #[.tmp 32, .tmp 34], argTypes := #[78, 179] }, 4, "check.go:117", #[⟨27, .data⟩, ⟨29, .data⟩, ⟨25, .chain⟩, ⟨25, .guard⟩], some (25, true)⟩) rfl (fun K hK => ?_) AllReadyH.nil
  rw [if_pos (by rfl)]
  go_simp
  go_at_call 137
  refine (A_ps.out _ hHeld).mono ?_
  rintro e w7 ⟨rfl, s7⟩
  clear hHeld
  have hHeld := s7
  clear s7
  refine hK.out _ _ hHeld (fun _ => ?_)
  clear hK K
  try simp only [Act.put, List.setIfInBounds_toArray, List.set_cons_zero, List.set_cons_succ]
  refine wpAnyH_take (i := 31) (oi := ⟨some 36, .pick (.tmp 30) (.tmp 35) (.const (.bool false)), 4, "check.go:115", #[⟨25, .data⟩, ⟨30, .data⟩], none⟩) (v := ?v31) rfl (by kernel_rfl) (by kernel_rfl) (by kernel_rfl) (fun _ _ _ h => h) (Or.inl ⟨by rfl, ?hy31⟩) hHeld ?rest31
  case hy31 => (intro W hSW; unfold RtS at hSW; go_simp; try with_reducible rfl)
  try simp only [Act.put, List.setIfInBounds_toArray, List.set_cons_zero, List.set_cons_succ]
  refine wpAnyH_take (i := 32) (oi := ⟨some 37, .move (.tmp 36), 4, "check.go:115", #[⟨31, .data⟩, ⟨30, .chain⟩], none⟩) (v := ?v32) rfl (by kernel_rfl) (by kernel_rfl) (by kernel_rfl) (fun _ _ _ h => h) (Or.inl ⟨by rfl, ?hy32⟩) hHeld ?rest32
  case hy32 => (intro W hSW; unfold RtS at hSW; go_simp; try with_reducible rfl)
  try simp only [Act.put, List.setIfInBounds_toArray, List.set_cons_zero, List.set_cons_succ]
  refine wpAnyH_take (i := 33) (oi := ⟨some 38, .fieldAddr 80 (.tmp 3) 3, 0, "check.go:115", #[⟨32, .guard⟩], some (32, true)⟩) (v := ?v33) rfl (by kernel_rfl) (by kernel_rfl) (by kernel_rfl) (fun _ _ _ h => h) (Or.inl ⟨by rfl, ?hy33⟩) hHeld ?rest33
  case hy33 => (intro W hSW; unfold RtS at hSW; go_simp; try with_reducible rfl)
  try simp only [Act.put, List.setIfInBounds_toArray, List.set_cons_zero, List.set_cons_succ]
  refine wpAnyH_take (i := 34) (oi := ⟨some 39, .load 78 (.tmp 38), 78, "check.go:115", #[⟨33, .data⟩, ⟨32, .guard⟩], some (32, true)⟩) (v := ?v34) rfl (by kernel_rfl) (by kernel_rfl) (by kernel_rfl) (fun _ _ _ h => h) (Or.inl ⟨by rfl, ?hy34⟩) hHeld ?rest34
  case hy34 => (intro W hSW; unfold RtS at hSW; go_simp; try with_reducible rfl)
  try simp only [Act.put, List.setIfInBounds_toArray, List.set_cons_zero, List.set_cons_succ]
  refine wpAnyH_ready (rs := [35]) (by kernel_rfl) (by simp) ?_
  refine AllReadyH.cons (o := ⟨some 40, .call { callee := .value (.func 139), args := #[.tmp 39], argTypes := #[78] }, 4, "check.go:117", #[⟨34, .data⟩, ⟨32, .chain⟩, ⟨32, .guard⟩], some (32, true)⟩) rfl (fun K hK => ?_) AllReadyH.nil
  rw [if_pos (by rfl)]
  go_simp
  go_at_call 139
  refine (A_up.out _ hHeld).mono ?_
  rintro e w7 ⟨rfl, s7⟩
  clear hHeld
  have hHeld := s7
  clear s7
  refine hK.out _ _ hHeld (fun _ => ?_)
  clear hK K
  try simp only [Act.put, List.setIfInBounds_toArray, List.set_cons_zero, List.set_cons_succ]
  refine wpAnyH_take (i := 36) (oi := ⟨some 41, .pick (.tmp 37) (.tmp 40) (.const (.bool false)), 4, "check.go:115", #[⟨32, .data⟩, ⟨35, .data⟩], none⟩) (v := ?v36) rfl (by kernel_rfl) (by kernel_rfl) (by kernel_rfl) (fun _ _ _ h => h) (Or.inl ⟨by rfl, ?hy36⟩) hHeld ?rest36
  case hy36 => (intro W hSW; unfold RtS at hSW; go_simp; try with_reducible rfl)
  try simp only [Act.put, List.setIfInBounds_toArray, List.set_cons_zero, List.set_cons_succ]
  refine wpAnyH_take (i := 37) (oi := ⟨some 42, .move (.tmp 41), 4, "check.go:115", #[⟨36, .data⟩, ⟨35, .chain⟩], none⟩) (v := ?v37) rfl (by kernel_rfl) (by kernel_rfl) (by kernel_rfl) (fun _ _ _ h => h) (Or.inl ⟨by rfl, ?hy37⟩) hHeld ?rest37
  case hy37 => (intro W hSW; unfold RtS at hSW; go_simp; try with_reducible rfl)
  try simp only [Act.put, List.setIfInBounds_toArray, List.set_cons_zero, List.set_cons_succ]
  refine wpAnyH_take (i := 38) (oi := ⟨some 43, .fieldAddr 80 (.tmp 3) 4, 0, "check.go:115", #[⟨37, .guard⟩], some (37, true)⟩) (v := ?v38) rfl (by kernel_rfl) (by kernel_rfl) (by kernel_rfl) (fun _ _ _ h => h) (Or.inl ⟨by rfl, ?hy38⟩) hHeld ?rest38
  case hy38 => (intro W hSW; unfold RtS at hSW; go_simp; try with_reducible rfl)
  try simp only [Act.put, List.setIfInBounds_toArray, List.set_cons_zero, List.set_cons_succ]
  refine wpAnyH_take (i := 39) (oi := ⟨some 44, .load 31 (.tmp 43), 31, "check.go:115", #[⟨38, .data⟩, ⟨37, .guard⟩], some (37, true)⟩) (v := ?v39) rfl (by kernel_rfl) (by kernel_rfl) (by kernel_rfl) (fun _ _ _ h => h) (Or.inl ⟨by rfl, ?hy39⟩) hHeld ?rest39
  case hy39 => (intro W hSW; unfold RtS at hSW; go_simp; try with_reducible rfl)
  try simp only [Act.put, List.setIfInBounds_toArray, List.set_cons_zero, List.set_cons_succ]
  refine wpAnyH_take (i := 40) (oi := ⟨some 45, .load 51 (.tmp 2), 51, "check.go:115", #[⟨37, .guard⟩], some (37, true)⟩) (v := ?v40) rfl (by kernel_rfl) (by kernel_rfl) (by kernel_rfl) (fun _ _ _ h => h) (Or.inl ⟨by rfl, ?hy40⟩) hHeld ?rest40
  case hy40 => (intro W hSW; unfold RtS at hSW; go_simp; try with_reducible rfl)
  try simp only [Act.put, List.setIfInBounds_toArray, List.set_cons_zero, List.set_cons_succ]
  refine wpAnyH_ready (rs := [41]) (by kernel_rfl) (by simp) ?_
  refine AllReadyH.cons (o := ⟨some 46, .makeFunc (.func 72) #[.tmp 45] #[], 121, "check.go:115", #[⟨40, .data⟩, ⟨37, .guard⟩], some (37, true)⟩) rfl (fun K hK => ?_) AllReadyH.nil
  rw [if_pos (by rfl)]
  go_simp
  refine hK.out _ _ hHeld (fun _ => ?_)
  clear hK K
  try simp only [Act.put, List.setIfInBounds_toArray, List.set_cons_zero, List.set_cons_succ]
  refine wpAnyH_ready (rs := [42]) (by kernel_rfl) (by simp) ?_
  refine AllReadyH.cons (o := ⟨some 47, .call { callee := .value (.func 71), args := #[.tmp 44, .tmp 46], argTypes := #[31, 121] }, 4, "check.go:118", #[⟨39, .data⟩, ⟨41, .data⟩, ⟨37, .chain⟩, ⟨37, .guard⟩], some (37, true)⟩) rfl (fun K hK => ?_) AllReadyH.nil
  rw [if_pos (by rfl)]
  go_simp
  go_at_call 71
  refine (A_vr.out _ hHeld).mono ?_
  rintro e w7 ⟨rfl, s7⟩
  clear hHeld
  have hHeld := s7
  clear s7
  refine hK.out _ _ hHeld (fun _ => ?_)
  clear hK K
  try simp only [Act.put, List.setIfInBounds_toArray, List.set_cons_zero, List.set_cons_succ]
  refine wpAnyH_take (i := 43) (oi := ⟨some 48, .pick (.tmp 42) (.tmp 47) (.const (.bool false)), 4, "check.go:115", #[⟨37, .data⟩, ⟨42, .data⟩], none⟩) (v := ?v43) rfl (by kernel_rfl) (by kernel_rfl) (by kernel_rfl) (fun _ _ _ h => h) (Or.inl ⟨by rfl, ?hy43⟩) hHeld ?rest43
  case hy43 => (intro W hSW; unfold RtS at hSW; go_simp; try with_reducible rfl)
  try simp only [Act.put, List.setIfInBounds_toArray, List.set_cons_zero, List.set_cons_succ]
  refine wpAnyH_take (i := 44) (oi := ⟨some 49, .move (.tmp 48), 4, "check.go:115", #[⟨43, .data⟩, ⟨42, .chain⟩], none⟩) (v := ?v44) rfl (by kernel_rfl) (by kernel_rfl) (by kernel_rfl) (fun _ _ _ h => h) (Or.inl ⟨by rfl, ?hy44⟩) hHeld ?rest44
  case hy44 => (intro W hSW; unfold RtS at hSW; go_simp; try with_reducible rfl)
  try simp only [Act.put, List.setIfInBounds_toArray, List.set_cons_zero, List.set_cons_succ]
  refine wpAnyH_take (i := 45) (oi := ⟨some 50, .fieldAddr 51 (.tmp 2) 0, 0, "check.go:115", #[⟨44, .guard⟩], some (44, true)⟩) (v := ?v45) rfl (by kernel_rfl) (by kernel_rfl) (by kernel_rfl) (fun _ _ _ h => h) (Or.inl ⟨by rfl, ?hy45⟩) hHeld ?rest45
  case hy45 => (intro W hSW; unfold RtS at hSW; go_simp; try with_reducible rfl)
  try simp only [Act.put, List.setIfInBounds_toArray, List.set_cons_zero, List.set_cons_succ]
  refine wpAnyH_take (i := 46) (oi := ⟨some 51, .load 3 (.tmp 50), 3, "check.go:115", #[⟨45, .data⟩, ⟨44, .guard⟩], some (44, true)⟩) (v := ?v46) rfl (by kernel_rfl) (by kernel_rfl) (by kernel_rfl) (fun _ _ _ h => h) (Or.inl ⟨by rfl, ?hy46⟩) hHeld ?rest46
  case hy46 => (intro W hSW; unfold RtS at hSW; go_simp; try with_reducible rfl)
  try simp only [Act.put, List.setIfInBounds_toArray, List.set_cons_zero, List.set_cons_succ]
  refine wpAnyH_take (i := 47) (oi := ⟨some 52, .binOp .eql 3 (.tmp 51) (.const (.int .i64 0)) 3, 4, "check.go:115", #[⟨46, .data⟩, ⟨44, .guard⟩], some (44, true)⟩) (v := ?v47) rfl (by kernel_rfl) (by kernel_rfl) (by kernel_rfl) (fun _ _ _ h => h) (Or.inl ⟨by rfl, ?hy47⟩) hHeld ?rest47
  case hy47 => (intro W hSW; unfold RtS at hSW; go_simp; try with_reducible rfl)
  try simp only [Act.put, List.setIfInBounds_toArray, List.set_cons_zero, List.set_cons_succ]
  refine wpAnyH_take (i := 48) (oi := ⟨some 53, .move (.tmp 52), 4, "check.go:115", #[⟨47, .data⟩, ⟨44, .chain⟩, ⟨44, .guard⟩], some (44, true)⟩) (v := ?v48) rfl (by kernel_rfl) (by kernel_rfl) (by kernel_rfl) (fun _ _ _ h => h) (Or.inl ⟨by rfl, ?hy48⟩) hHeld ?rest48
  case hy48 => (intro W hSW; unfold RtS at hSW; go_simp; try with_reducible rfl)
  try simp only [Act.put, List.setIfInBounds_toArray, List.set_cons_zero, List.set_cons_succ]
  refine wpAnyH_take (i := 49) (oi := ⟨some 54, .fieldAddr 80 (.tmp 3) 5, 0, "check.go:115", #[⟨48, .guard⟩], some (48, false)⟩) (v := ?v49) rfl (by kernel_rfl) (by kernel_rfl) (by kernel_rfl) (fun _ _ _ h => h) (Or.inl ⟨by rfl, ?hy49⟩) hHeld ?rest49
  case hy49 => (intro W hSW; unfold RtS at hSW; go_simp; try with_reducible rfl)
  try simp only [Act.put, List.setIfInBounds_toArray, List.set_cons_zero, List.set_cons_succ]
  refine wpAnyH_take (i := 50) (oi := ⟨some 55, .load 32 (.tmp 54), 32, "check.go:115", #[⟨49, .data⟩, ⟨48, .guard⟩], some (48, false)⟩) (v := ?v50) rfl (by kernel_rfl) (by kernel_rfl) (by kernel_rfl) (fun _ _ _ h => h) (Or.inl ⟨by rfl, ?hy50⟩) hHeld ?rest50
  case hy50 => (intro W hSW; unfold RtS at hSW; go_simp; try with_reducible rfl)
  try simp only [Act.put, List.setIfInBounds_toArray, List.set_cons_zero, List.set_cons_succ]
  refine wpAnyH_take (i := 51) (oi := ⟨some 56, .call { callee := .builtin .len, args := #[.tmp 55], argTypes := #[32] }, 3, "check.go:115", #[⟨50, .data⟩, ⟨48, .guard⟩], some (48, false)⟩) (v := ?v51) rfl (by kernel_rfl) (by kernel_rfl) (by kernel_rfl) (fun _ _ _ h => h) (Or.inl ⟨by rfl, ?hy51⟩) hHeld ?rest51
  case hy51 => (intro W hSW; unfold RtS at hSW; go_simp; try with_reducible rfl)
  try simp only [Act.put, List.setIfInBounds_toArray, List.set_cons_zero, List.set_cons_succ]
  refine wpAnyH_take (i := 52) (oi := ⟨some 57, .binOp .eql 3 (.tmp 56) (.const (.int .i64 0)) 3, 4, "check.go:115", #[⟨51, .data⟩, ⟨48, .guard⟩], some (48, false)⟩) (v := ?v52) rfl (by kernel_rfl) (by kernel_rfl) (by kernel_rfl) (fun _ _ _ h => h) (Or.inl ⟨by rfl, ?hy52⟩) hHeld ?rest52
  case hy52 => (intro W hSW; unfold RtS at hSW; go_simp; try with_reducible rfl)
  try simp only [Act.put, List.setIfInBounds_toArray, List.set_cons_zero, List.set_cons_succ]
  refine wpAnyH_take (i := 53) (oi := ⟨some 58, .pick (.tmp 53) (.const (.bool true)) (.tmp 57), 4, "check.go:115", #[⟨48, .data⟩, ⟨52, .data⟩, ⟨44, .guard⟩], some (44, true)⟩) (v := ?v53) rfl (by kernel_rfl) (by kernel_rfl) (by kernel_rfl) (fun _ _ _ h => h) (Or.inl ⟨by rfl, ?hy53⟩) hHeld ?rest53
  case hy53 => (intro W hSW; unfold RtS at hSW; go_simp; try with_reducible rfl)
  try simp only [Act.put, List.setIfInBounds_toArray, List.set_cons_zero, List.set_cons_succ]
  refine wpAnyH_take (i := 54) (oi := ⟨some 59, .pick (.tmp 49) (.tmp 58) (.const (.bool false)), 4, "check.go:115", #[⟨44, .data⟩, ⟨53, .data⟩], none⟩) (v := ?v54) rfl (by kernel_rfl) (by kernel_rfl) (by kernel_rfl) (fun _ _ _ h => h) (Or.inl ⟨by rfl, ?hy54⟩) hHeld ?rest54
  case hy54 => (intro W hSW; unfold RtS at hSW; go_simp; try with_reducible rfl)
  try simp only [Act.put, List.setIfInBounds_toArray, List.set_cons_zero, List.set_cons_succ]
  refine wpAnyH_take (i := 55) (oi := ⟨some 60, .move (.tmp 59), 4, "check.go:115", #[⟨54, .data⟩, ⟨48, .chain⟩], none⟩) (v := ?v55) rfl (by kernel_rfl) (by kernel_rfl) (by kernel_rfl) (fun _ _ _ h => h) (Or.inl ⟨by rfl, ?hy55⟩) hHeld ?rest55
  case hy55 => (intro W hSW; unfold RtS at hSW; go_simp; try with_reducible rfl)
  try simp only [Act.put, List.setIfInBounds_toArray, List.set_cons_zero, List.set_cons_succ]
  refine wpAnyH_take (i := 56) (oi := ⟨some 61, .load 51 (.tmp 2), 51, "check.go:115", #[⟨55, .guard⟩], some (55, true)⟩) (v := ?v56) rfl (by kernel_rfl) (by kernel_rfl) (by kernel_rfl) (fun _ _ _ h => h) (Or.inl ⟨by rfl, ?hy56⟩) hHeld ?rest56
  case hy56 => (intro W hSW; unfold RtS at hSW; go_simp; try with_reducible rfl)
  try simp only [Act.put, List.setIfInBounds_toArray, List.set_cons_zero, List.set_cons_succ]
  refine wpAnyH_take (i := 58) (oi := ⟨some 63, .fieldAddr 80 (.tmp 3) 5, 0, "check.go:115", #[⟨55, .guard⟩], some (55, true)⟩) (v := ?v58) rfl (by kernel_rfl) (by kernel_rfl) (by kernel_rfl) (fun _ _ _ h => h) (Or.inl ⟨by rfl, ?hy58⟩) hHeld ?rest58
  case hy58 => (intro W hSW; unfold RtS at hSW; go_simp; try with_reducible rfl)
  try simp only [Act.put, List.setIfInBounds_toArray, List.set_cons_zero, List.set_cons_succ]
  refine wpAnyH_take (i := 59) (oi := ⟨some 64, .load 32 (.tmp 63), 32, "check.go:115", #[⟨58, .data⟩, ⟨55, .guard⟩], some (55, true)⟩) (v := ?v59) rfl (by kernel_rfl) (by kernel_rfl) (by kernel_rfl) (fun _ _ _ h => h) (Or.inl ⟨by rfl, ?hy59⟩) hHeld ?rest59
  case hy59 => (intro W hSW; unfold RtS at hSW; go_simp; try with_reducible rfl)
  try simp only [Act.put, List.setIfInBounds_toArray, List.set_cons_zero, List.set_cons_succ]
  refine wpAnyH_ready (rs := [57]) (by kernel_rfl) (by simp) ?_
  refine AllReadyH.cons (o := ⟨some 62, .call { callee := .value (.func 65), args := #[.tmp 61], argTypes := #[51] }, 51, "check.go:119", #[⟨56, .data⟩, ⟨55, .chain⟩, ⟨55, .guard⟩], some (55, true)⟩) rfl (fun K hK => ?_) AllReadyH.nil
  rw [if_pos (by rfl)]
  go_simp
  go_at_call 65
  refine (A_dp.out _ hHeld).mono ?_
  rintro e w7 ⟨rfl, s7⟩
  clear hHeld
  have hHeld := s7
  clear s7
  refine hK.out _ _ hHeld (fun _ => ?_)
  clear hK K
  try simp only [Act.put, List.setIfInBounds_toArray, List.set_cons_zero, List.set_cons_succ]
  refine wpAnyH_ready (rs := [60]) (by kernel_rfl) (by simp) ?_
  refine AllReadyH.cons (o := ⟨some 65, .call { callee := .value (.func 73), args := #[.tmp 62, .tmp 64], argTypes := #[51, 32] }, 4, "check.go:119", #[⟨57, .data⟩, ⟨59, .data⟩, ⟨57, .chain⟩, ⟨55, .guard⟩], some (55, true)⟩) rfl (fun K hK => ?_) AllReadyH.nil
  rw [if_pos (by rfl)]
  go_simp
  go_at_call 73
  refine (A_rt.out _ hHeld).mono ?_
  rintro e w7 ⟨rfl, s7⟩
  clear hHeld
  have hHeld := s7
  clear s7
  refine hK.out _ _ hHeld (fun _ => ?_)
  clear hK K
  try simp only [Act.put, List.setIfInBounds_toArray, List.set_cons_zero, List.set_cons_succ]
  refine wpAnyH_take (i := 61) (oi := ⟨some 66, .pick (.tmp 60) (.tmp 65) (.const (.bool false)), 4, "check.go:115", #[⟨55, .data⟩, ⟨60, .data⟩], none⟩) (v := ?v61) rfl (by kernel_rfl) (by kernel_rfl) (by kernel_rfl) (fun _ _ _ h => h) (Or.inl ⟨by rfl, ?hy61⟩) hHeld ?rest61
  case hy61 => (intro W hSW; unfold RtS at hSW; go_simp; try with_reducible rfl)
  try simp only [Act.put, List.setIfInBounds_toArray, List.set_cons_zero, List.set_cons_succ]
  refine wpAnyH_take (i := 62) (oi := ⟨some 67, .move (.tmp 66), 4, "check.go:115", #[⟨61, .data⟩, ⟨60, .chain⟩], none⟩) (v := ?v62) rfl (by kernel_rfl) (by kernel_rfl) (by kernel_rfl) (fun _ _ _ h => h) (Or.inl ⟨by rfl, ?hy62⟩) hHeld ?rest62
  case hy62 => (intro W hSW; unfold RtS at hSW; go_simp; try with_reducible rfl)
  try simp only [Act.put, List.setIfInBounds_toArray, List.set_cons_zero, List.set_cons_succ]
  refine wpAnyH_take (i := 63) (oi := ⟨some 68, .fieldAddr 80 (.tmp 3) 6, 0, "check.go:115", #[⟨62, .guard⟩], some (62, true)⟩) (v := ?v63) rfl (by kernel_rfl) (by kernel_rfl) (by kernel_rfl) (fun _ _ _ h => h) (Or.inl ⟨by rfl, ?hy63⟩) hHeld ?rest63
  case hy63 => (intro W hSW; unfold RtS at hSW; go_simp; try with_reducible rfl)
  try simp only [Act.put, List.setIfInBounds_toArray, List.set_cons_zero, List.set_cons_succ]
  refine wpAnyH_take (i := 64) (oi := ⟨some 69, .load 33 (.tmp 68), 33, "check.go:115", #[⟨63, .data⟩, ⟨62, .guard⟩], some (62, true)⟩) (v := ?v64) rfl (by kernel_rfl) (by kernel_rfl) (by kernel_rfl) (fun _ _ _ h => h) (Or.inl ⟨by rfl, ?hy64⟩) hHeld ?rest64
  case hy64 => (intro W hSW; unfold RtS at hSW; go_simp; try with_reducible rfl)
  try simp only [Act.put, List.setIfInBounds_toArray, List.set_cons_zero, List.set_cons_succ]
  refine wpAnyH_take (i := 65) (oi := ⟨some 70, .load 51 (.tmp 2), 51, "check.go:115", #[⟨62, .guard⟩], some (62, true)⟩) (v := ?v65) rfl (by kernel_rfl) (by kernel_rfl) (by kernel_rfl) (fun _ _ _ h => h) (Or.inl ⟨by rfl, ?hy65⟩) hHeld ?rest65
  case hy65 => (intro W hSW; unfold RtS at hSW; go_simp; try with_reducible rfl)
  try simp only [Act.put, List.setIfInBounds_toArray, List.set_cons_zero, List.set_cons_succ]
  refine wpAnyH_ready (rs := [66]) (by kernel_rfl) (by simp) ?_
  refine AllReadyH.cons (o := ⟨some 71, .call { callee := .value (.func 114), args := #[.tmp 70], argTypes := #[51] }, 51, "check.go:120", #[⟨65, .data⟩, ⟨62, .chain⟩, ⟨62, .guard⟩], some (62, true)⟩) rfl (fun K hK => ?_) AllReadyH.nil
  rw [if_pos (by rfl)]
  go_simp
  go_at_call 114
  refine (A_om.out _ hHeld).mono ?_
  rintro e w7 ⟨rfl, s7⟩
  clear hHeld
  have hHeld := s7
  clear s7
  refine hK.out _ _ hHeld (fun _ => ?_)
  clear hK K
  try simp only [Act.put, List.setIfInBounds_toArray, List.set_cons_zero, List.set_cons_succ]
  refine wpAnyH_ready (rs := [67]) (by kernel_rfl) (by simp) ?_
  refine AllReadyH.cons (o := ⟨some 72, .makeFunc (.func 75) #[.tmp 71] #[], 124, "check.go:115", #[⟨66, .data⟩, ⟨62, .guard⟩], some (62, true)⟩) rfl (fun K hK => ?_) AllReadyH.nil
  rw [if_pos (by rfl)]
  go_simp
  refine hK.out _ _ hHeld (fun _ => ?_)
  clear hK K
  try simp only [Act.put, List.setIfInBounds_toArray, List.set_cons_zero, List.set_cons_succ]
  refine wpAnyH_ready (rs := [68]) (by kernel_rfl) (by simp) ?_
  refine AllReadyH.cons (o := ⟨some 73, .call { callee := .value (.func 74), args := #[.tmp 69, .tmp 72], argTypes := #[33, 124] }, 4, "check.go:120", #[⟨64, .data⟩, ⟨67, .data⟩, ⟨66, .chain⟩, ⟨62, .guard⟩], some (62, true)⟩) rfl (fun K hK => ?_) AllReadyH.nil
  rw [if_pos (by rfl)]
  go_simp
  go_at_call 74
  refine (A_bd.out _ hHeld).mono ?_
  rintro e w7 ⟨rfl, s7⟩
  clear hHeld
  have hHeld := s7
  clear s7
  refine hK.out _ _ hHeld (fun _ => ?_)
  clear hK K
  try simp only [Act.put, List.setIfInBounds_toArray, List.set_cons_zero, List.set_cons_succ]
  refine wpAnyH_take (i := 69) (oi := ⟨some 74, .pick (.tmp 67) (.tmp 73) (.const (.bool false)), 4, "check.go:115", #[⟨62, .data⟩, ⟨68, .data⟩], none⟩) (v := ?v69) rfl (by kernel_rfl) (by kernel_rfl) (by kernel_rfl) (fun _ _ _ h => h) (Or.inl ⟨by rfl, ?hy69⟩) hHeld ?rest69
  case hy69 => (intro W hSW; unfold RtS at hSW; go_simp; try with_reducible rfl)
  try simp only [Act.put, List.setIfInBounds_toArray, List.set_cons_zero, List.set_cons_succ]
  refine wpAnyH_take (i := 70) (oi := ⟨some 75, .move (.tmp 74), 4, "check.go:115", #[⟨69, .data⟩, ⟨68, .chain⟩], none⟩) (v := ?v70) rfl (by kernel_rfl) (by kernel_rfl) (by kernel_rfl) (fun _ _ _ h => h) (Or.inl ⟨by rfl, ?hy70⟩) hHeld ?rest70
  case hy70 => (intro W hSW; unfold RtS at hSW; go_simp; try with_reducible rfl)
  try simp only [Act.put, List.setIfInBounds_toArray, List.set_cons_zero, List.set_cons_succ]
  refine wpAnyH_take (i := 71) (oi := ⟨some 76, .load 51 (.tmp 2), 51, "check.go:115", #[⟨70, .guard⟩], some (70, true)⟩) (v := ?v71) rfl (by kernel_rfl) (by kernel_rfl) (by kernel_rfl) (fun _ _ _ h => h) (Or.inl ⟨by rfl, ?hy71⟩) hHeld ?rest71
  case hy71 => (intro W hSW; unfold RtS at hSW; go_simp; try with_reducible rfl)
  try simp only [Act.put, List.setIfInBounds_toArray, List.set_cons_zero, List.set_cons_succ]
  refine wpAnyH_take (i := 72) (oi := ⟨some 77, .fieldAddr 80 (.tmp 3) 7, 0, "check.go:115", #[⟨70, .guard⟩], some (70, true)⟩) (v := ?v72) rfl (by kernel_rfl) (by kernel_rfl) (by kernel_rfl) (fun _ _ _ h => h) (Or.inl ⟨by rfl, ?hy72⟩) hHeld ?rest72
  case hy72 => (intro W hSW; unfold RtS at hSW; go_simp; try with_reducible rfl)
  try simp only [Act.put, List.setIfInBounds_toArray, List.set_cons_zero, List.set_cons_succ]
  refine wpAnyH_take (i := 73) (oi := ⟨some 78, .load 29 (.tmp 77), 29, "check.go:115", #[⟨72, .data⟩, ⟨70, .guard⟩], some (70, true)⟩) (v := ?v73) rfl (by kernel_rfl) (by kernel_rfl) (by kernel_rfl) (fun _ _ _ h => h) (Or.inl ⟨by rfl, ?hy73⟩) hHeld ?rest73
  case hy73 => (intro W hSW; unfold RtS at hSW; go_simp; try with_reducible rfl)
  try simp only [Act.put, List.setIfInBounds_toArray, List.set_cons_zero, List.set_cons_succ]
  refine wpAnyH_ready (rs := [74]) (by kernel_rfl) (by simp) ?_
  refine AllReadyH.cons (o := ⟨some 79, .buildSlice 147 1 #[(0, .tmp 78)], 147, "check.go:115", #[⟨73, .data⟩, ⟨70, .guard⟩], some (70, true)⟩) rfl (fun K hK => ?_) AllReadyH.nil
  rw [if_pos (by rfl)]
  go_simp
  have hNew := hHeld.step ((Below.refl _ _).alloc (Nat.le_refl _) (.cells #[.slice ena en.length enc] 29))
  have hBlk := heap_new w7 (.cells #[.slice ena en.length enc] 29)
  clear hHeld
  have hHeld := hNew
  clear hNew
  refine hK.out _ _ hHeld (fun _ => ?_)
  clear hK K
  try simp only [Act.put, List.setIfInBounds_toArray, List.set_cons_zero, List.set_cons_succ]
  refine wpAnyH_ready (rs := [75]) (by kernel_rfl) (by simp) ?_
  refine AllReadyH.cons (o := ⟨some 80, .call { callee := .value (.func 68), args := #[.tmp 76, .tmp 79], argTypes := #[51, 147] }, 4, "check.go:120", #[⟨71, .data⟩, ⟨74, .data⟩, ⟨70, .chain⟩, ⟨70, .guard⟩], some (70, true)⟩) rfl (fun K hK => ?_) AllReadyH.nil
  rw [if_pos (by rfl)]
  go_simp
  go_at_call 68
  refine (A_nt.out _ _ _ hHeld hBlk).mono ?_
  rintro e w8 ⟨rfl, s7⟩
  clear hHeld
  have hHeld := s7
  clear s7
  refine hK.out _ _ hHeld (fun _ => ?_)
  clear hK K
  try simp only [Act.put, List.setIfInBounds_toArray, List.set_cons_zero, List.set_cons_succ]
  refine wpAnyH_take (i := 76) (oi := ⟨some 81, .pick (.tmp 75) (.tmp 80) (.const (.bool false)), 4, "check.go:115", #[⟨70, .data⟩, ⟨75, .data⟩], none⟩) (v := ?v76) rfl (by kernel_rfl) (by kernel_rfl) (by kernel_rfl) (fun _ _ _ h => h) (Or.inl ⟨by rfl, ?hy76⟩) hHeld ?rest76
  case hy76 => (intro W hSW; unfold RtS at hSW; go_simp; try with_reducible rfl)
  try simp only [Act.put, List.setIfInBounds_toArray, List.set_cons_zero, List.set_cons_succ]
  refine wpAnyH_take (i := 77) (oi := ⟨some 4, .assign (.tmp 81), 4, "check.go:115", ([⟨76, .data⟩, ⟨75, .chain⟩, ⟨0, .phase⟩, ⟨1, .phase⟩, ⟨2, .phase⟩, ⟨3, .phase⟩, ⟨4, .phase⟩, ⟨5, .phase⟩, ⟨6, .phase⟩, ⟨7, .phase⟩, ⟨8, .phase⟩, ⟨9, .phase⟩, ⟨10, .phase⟩, ⟨11, .phase⟩, ⟨12, .phase⟩, ⟨13, .phase⟩, ⟨14, .phase⟩, ⟨15, .phase⟩, ⟨16, .phase⟩, ⟨17, .phase⟩, ⟨18, .phase⟩, ⟨19, .phase⟩, ⟨20, .phase⟩, ⟨21, .phase⟩, ⟨22, .phase⟩, ⟨23, .phase⟩, ⟨24, .phase⟩, ⟨25, .phase⟩, ⟨26, .phase⟩, ⟨27, .phase⟩, ⟨28, .phase⟩, ⟨29, .phase⟩, ⟨30, .phase⟩, ⟨31, .phase⟩, ⟨32, .phase⟩, ⟨33, .phase⟩, ⟨34, .phase⟩, ⟨35, .phase⟩, ⟨36, .phase⟩].append [⟨37, .phase⟩, ⟨38, .phase⟩, ⟨39, .phase⟩, ⟨40, .phase⟩, ⟨41, .phase⟩, ⟨42, .phase⟩, ⟨43, .phase⟩, ⟨44, .phase⟩, ⟨45, .phase⟩, ⟨46, .phase⟩, ⟨47, .phase⟩, ⟨48, .phase⟩, ⟨49, .phase⟩, ⟨50, .phase⟩, ⟨51, .phase⟩, ⟨52, .phase⟩, ⟨53, .phase⟩, ⟨54, .phase⟩, ⟨55, .phase⟩, ⟨56, .phase⟩, ⟨57, .phase⟩, ⟨58, .phase⟩, ⟨59, .phase⟩, ⟨60, .phase⟩, ⟨61, .phase⟩, ⟨62, .phase⟩, ⟨63, .phase⟩, ⟨64, .phase⟩, ⟨65, .phase⟩, ⟨66, .phase⟩, ⟨67, .phase⟩, ⟨68, .phase⟩, ⟨69, .phase⟩, ⟨70, .phase⟩, ⟨71, .phase⟩, ⟨72, .phase⟩, ⟨73, .phase⟩, ⟨74, .phase⟩, ⟨75, .phase⟩, ⟨76, .phase⟩]).toArray, none⟩) (v := ?v77) rfl (by kernel_rfl) (by kernel_rfl) (by kernel_rfl) (fun _ _ _ h => h) (Or.inl ⟨by rfl, ?hy77⟩) hHeld ?rest77
  case hy77 => (intro W hSW; unfold RtS at hSW; go_simp; try with_reducible rfl)
  try simp only [Act.put, List.setIfInBounds_toArray, List.set_cons_zero, List.set_cons_succ]
  refine wpAnyH_done (by kernel_rfl) ?_ _
  have HS := Lib.hid hHeld
  clear hHeld
  go_wp2_with fail
  go_ret
  exact ⟨rfl, HS.out.since⟩
end Go.Proofs.YtciijpahjjoppaaGreat
end
