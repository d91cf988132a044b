/-
  Texts of this proof, put together.
-/
import Derived.Test.YtciijpahjjoppaaGreatPb6
section
namespace Go.Proofs.YtciijpahjjoppaaGreat
open Go.RowKit Go.Shelf Go.Deep

def MkPost {σ : Type} {g : Nat} {c1 c2 : Value} (C : Clo σ g c1 c2) (lo n : Nat) (w : World) (m0 m1 : List (List D)) (st : σ) (e : Ending) (w' : World) : Prop :=
  ∃ a0 cap0 a1 cap1, e = .returned (.agg ⟨[.slice a0 m0.length cap0, .slice a1 m1.length cap1]⟩) ∧ At (NewN C lo w.heap.size w') (.slice a0 m0.length cap0) (.row m0) ∧ At (NewN C lo w.heap.size w') (.slice a1 m1.length cap1) (.row m1) ∧ C.I n st w' ∧ Kept C.O C.hi w w'
set_option maxRecDepth 100000 in
set_option maxHeartbeats 4000000 in
theorem tmarks_any {σ : Type} {g : Nat} {c1 c2 : Value} (C : Clo σ g c1 c2) (w0 : World) (hlow : w0.heap.size ≤ C.low) (m0 m1 : List (List D)) (m0a : Option Addr) (m0c : Nat) (m1a : Option Addr) (m1c : Nat) (h0 : At w0 (.slice m0a m0.length m0c) (.row m0)) (h1 : At w0 (.slice m1a m1.length m1c) (.row m1)) (s0 : ∀ x ∈ m0, ShT x) (s1 : ∀ x ∈ m1, ShT x) (hl0 : m0.length ≤ 8000000) (hl1 : m1.length ≤ 8000000)
    (n : Nat) (st : σ) (w : World) (hI : C.I n st w) (hW : Below w0.heap.size w0 w) :
    Calls Tryz.prog 125 #[.agg #[.func (.func g) #[] #[c1, c2]], .agg #[.slice m0a m0.length m0c, .slice m1a m1.length m1c]] w (MkPost C w0.heap.size n w m0 m1 st) := by
  have J0 := Lib.hid (BxJ.start C (T := 59) (cs := #[.slice m0a m0.length m0c, .slice m1a m1.length m1c]) (zs := #[.slice none 0 0, .slice none 0 0]) rfl hI)
  have G0 := Lib.hid (fun (W : World) (hJ : BxJ C n w st 59 [.slice m0a m0.length m0c, .slice m1a m1.length m1c] W) => (hJ.kept.ground hI hlow hW))
  have HM0 := Lib.hid (fun (W : World) (hJ : BxJ C n w st 59 [.slice m0a m0.length m0c, .slice m1a m1.length m1c] W) => (tnotes_any C w0 hlow m0a m0.length m0c m0 h0 s0 hl0 n st W hJ.i (G0.out W hJ)).mono fun e w' (h : TLPost C w0.heap.size n W m0 st e w') => (show TLPost C w0.heap.size n W m0 st e w' ∧ w.heap.size + 3 ≤ W.heap.size from ⟨h, hJ.sz⟩))
  have HM1 := Lib.hid (fun (W : World) (hJ : BxJ C n w st 59 [.slice m0a m0.length m0c, .slice m1a m1.length m1c] W) => (tnotes_any C w0 hlow m1a m1.length m1c m1 h1 s1 hl1 n st W hJ.i (G0.out W hJ)).mono fun e w' (h : TLPost C w0.heap.size n W m1 st e w') => (show TLPost C w0.heap.size n W m1 st e w' ∧ w.heap.size + 3 ≤ W.heap.size from ⟨h, hJ.sz⟩))
  have HLW := Lib.hid (show w0.heap.size ≤ w.heap.size from hW.size)
  clear h0 h1 s0 s1 hl0 hl1 hI hW hlow G0
  go_enter Tryz.func125, Tryz.ntmps125
  go_wp2_with fail
  refine wp_region_held (S := fun w' => BxJ C n w st 59 [.slice m0a m0.length m0c, .slice m1a m1.length m1c] w') (by kernel_rfl) ?_
  have hHeld := (show BxJ C n w st 59 [.slice m0a m0.length m0c, .slice m1a m1.length m1c] _ from J0.out.below (below_drew0 (Below.refl _ _)))
  change (fun w' => BxJ C n w st 59 [.slice m0a m0.length m0c, .slice m1a m1.length m1c] w') _ at hHeld
  refine wpAnyH_take (i := 0) (oi := ⟨some 5, .load 97 (.tmp 2), 97, "turn.go:44", #[], none⟩) (v := ?v0) rfl (by kernel_rfl) (by kernel_rfl) (by kernel_rfl) (fun _ _ _ h => h) (Or.inl ⟨by rfl, ?hy0⟩) hHeld ?rest0
  case hy0 => (intro W hSW; have cA := box_cells (show BxJ C n w st 59 [.slice m0a m0.length m0c, .slice m1a m1.length m1c] W from hSW).bt; have cB := box_cells (show BxJ C n w st 59 [.slice m0a m0.length m0c, .slice m1a m1.length m1c] W from hSW).bx; go_simp; try with_reducible rfl)
  try simp only [Act.put, List.setIfInBounds_toArray, List.set_cons_zero, List.set_cons_succ]
  refine wpAnyH_take (i := 1) (oi := ⟨some 6, .fieldAddr 59 (.tmp 3) 0, 0, "turn.go:44", #[], none⟩) (v := ?v1) rfl (by kernel_rfl) (by kernel_rfl) (by kernel_rfl) (fun _ _ _ h => h) (Or.inl ⟨by rfl, ?hy1⟩) hHeld ?rest1
  case hy1 => (intro W hSW; have cA := box_cells (show BxJ C n w st 59 [.slice m0a m0.length m0c, .slice m1a m1.length m1c] W from hSW).bt; have cB := box_cells (show BxJ C n w st 59 [.slice m0a m0.length m0c, .slice m1a m1.length m1c] W from hSW).bx; go_simp; try with_reducible rfl)
  try simp only [Act.put, List.setIfInBounds_toArray, List.set_cons_zero, List.set_cons_succ]
  refine wpAnyH_take (i := 2) (oi := ⟨some 7, .load 29 (.tmp 6), 29, "turn.go:44", #[⟨1, .data⟩], none⟩) (v := ?v2) rfl (by kernel_rfl) (by kernel_rfl) (by kernel_rfl) (fun _ _ _ h => h) (Or.inl ⟨by rfl, ?hy2⟩) hHeld ?rest2
  case hy2 => (intro W hSW; have cA := box_cells (show BxJ C n w st 59 [.slice m0a m0.length m0c, .slice m1a m1.length m1c] W from hSW).bt; have cB := box_cells (show BxJ C n w st 59 [.slice m0a m0.length m0c, .slice m1a m1.length m1c] W from hSW).bx; go_simp; try with_reducible rfl)
  try simp only [Act.put, List.setIfInBounds_toArray, List.set_cons_zero, List.set_cons_succ]
  refine wpAnyH_take (i := 4) (oi := ⟨some 9, .load 97 (.tmp 2), 97, "turn.go:44", #[], none⟩) (v := ?v4) rfl (by kernel_rfl) (by kernel_rfl) (by kernel_rfl) (fun _ _ _ h => h) (Or.inl ⟨by rfl, ?hy4⟩) hHeld ?rest4
  case hy4 => (intro W hSW; have cA := box_cells (show BxJ C n w st 59 [.slice m0a m0.length m0c, .slice m1a m1.length m1c] W from hSW).bt; have cB := box_cells (show BxJ C n w st 59 [.slice m0a m0.length m0c, .slice m1a m1.length m1c] W from hSW).bx; go_simp; try with_reducible rfl)
  try simp only [Act.put, List.setIfInBounds_toArray, List.set_cons_zero, List.set_cons_succ]
  refine wpAnyH_take (i := 5) (oi := ⟨some 10, .fieldAddr 59 (.tmp 3) 1, 0, "turn.go:44", #[], none⟩) (v := ?v5) rfl (by kernel_rfl) (by kernel_rfl) (by kernel_rfl) (fun _ _ _ h => h) (Or.inl ⟨by rfl, ?hy5⟩) hHeld ?rest5
  case hy5 => (intro W hSW; have cA := box_cells (show BxJ C n w st 59 [.slice m0a m0.length m0c, .slice m1a m1.length m1c] W from hSW).bt; have cB := box_cells (show BxJ C n w st 59 [.slice m0a m0.length m0c, .slice m1a m1.length m1c] W from hSW).bx; go_simp; try with_reducible rfl)
  try simp only [Act.put, List.setIfInBounds_toArray, List.set_cons_zero, List.set_cons_succ]
  refine wpAnyH_take (i := 6) (oi := ⟨some 11, .load 29 (.tmp 10), 29, "turn.go:44", #[⟨5, .data⟩], none⟩) (v := ?v6) rfl (by kernel_rfl) (by kernel_rfl) (by kernel_rfl) (fun _ _ _ h => h) (Or.inl ⟨by rfl, ?hy6⟩) hHeld ?rest6
  case hy6 => (intro W hSW; have cA := box_cells (show BxJ C n w st 59 [.slice m0a m0.length m0c, .slice m1a m1.length m1c] W from hSW).bt; have cB := box_cells (show BxJ C n w st 59 [.slice m0a m0.length m0c, .slice m1a m1.length m1c] W from hSW).bx; go_simp; try with_reducible rfl)
  try simp only [Act.put, List.setIfInBounds_toArray, List.set_cons_zero, List.set_cons_succ]
  refine wpAnyH_ready (rs := [3]) (by kernel_rfl) (by simp) ?_
  refine AllReadyH.cons (o := ⟨some 8, .call { callee := .value (.func 87), args := #[.tmp 5, .tmp 7], argTypes := #[97, 29] }, 29, "turn.go:44", #[⟨0, .data⟩, ⟨2, .data⟩], none⟩) rfl (fun K hK => ?_) AllReadyH.nil
  go_simp
  go_at_call 87
  refine (HM0.out _ (show BxJ C n w st 59 [.slice m0a m0.length m0c, .slice m1a m1.length m1c] _ from hHeld)).mono ?_
  rintro e w3 ⟨⟨a0, cap0, rfl, hat0, i3, k3⟩, hsz3⟩
  have hNew := (show BxJ C n w st 59 [.slice m0a m0.length m0c, .slice m1a m1.length m1c] _ from hHeld).called k3 i3
  clear hHeld
  have HA0 := Lib.hid (hat0.sub (newN_less hsz3))
  clear hat0 k3 i3
  have hHeld := hNew
  clear hNew
  refine hK.out _ _ hHeld (fun _ => ?_)
  clear hK K
  try simp only [Act.put, List.setIfInBounds_toArray, List.set_cons_zero, List.set_cons_succ]
  refine wpAnyH_ready (rs := [7]) (by kernel_rfl) (by simp) ?_
  refine AllReadyH.cons (o := ⟨some 12, .call { callee := .value (.func 87), args := #[.tmp 9, .tmp 11], argTypes := #[97, 29] }, 29, "turn.go:44", #[⟨4, .data⟩, ⟨6, .data⟩, ⟨3, .chain⟩], none⟩) rfl (fun K hK => ?_) AllReadyH.nil
  go_simp
  go_at_call 87
  refine (HM1.out _ (show BxJ C n w st 59 [.slice m0a m0.length m0c, .slice m1a m1.length m1c] _ from hHeld)).mono ?_
  rintro e w7 ⟨⟨a1, cap1, rfl, hat1, i7, k7⟩, hsz7⟩
  have hNew := (show BxJ C n w st 59 [.slice m0a m0.length m0c, .slice m1a m1.length m1c] _ from hHeld).called k7 i7
  have HB0 := Lib.hid (HA0.out.sub (newN_kept k7))
  have HB1 := Lib.hid (hat1.sub (newN_less hsz7))
  clear hHeld hat1 k7 i7 HA0
  have hHeld := hNew
  clear hNew
  refine hK.out _ _ hHeld (fun _ => ?_)
  clear hK K
  try simp only [Act.put, List.setIfInBounds_toArray, List.set_cons_zero, List.set_cons_succ]
  refine wpAnyH_take (i := 8) (oi := ⟨some 13, .build 59 #[(0, .tmp 8), (1, .tmp 12)], 59, "turn.go:44", #[⟨3, .data⟩, ⟨7, .data⟩], none⟩) (v := ?v8) rfl (by kernel_rfl) (by kernel_rfl) (by kernel_rfl) (fun _ _ _ h => h) (Or.inl ⟨by rfl, ?hy8⟩) hHeld ?rest8
  case hy8 => (intro W hSW; have cA := box_cells (show BxJ C n w st 59 [.slice m0a m0.length m0c, .slice m1a m1.length m1c] W from hSW).bt; have cB := box_cells (show BxJ C n w st 59 [.slice m0a m0.length m0c, .slice m1a m1.length m1c] W from hSW).bx; go_simp; try with_reducible rfl)
  try simp only [Act.put, List.setIfInBounds_toArray, List.set_cons_zero, List.set_cons_succ]
  refine wpAnyH_ready (rs := [9]) (by kernel_rfl) (by simp) ?_
  refine AllReadyH.cons (o := ⟨none, .store 59 (.tmp 4) (.tmp 13), 0, "turn.go:44", #[⟨8, .data⟩, ⟨7, .chain⟩, ⟨0, .phase⟩, ⟨1, .phase⟩, ⟨2, .phase⟩, ⟨3, .phase⟩, ⟨4, .phase⟩, ⟨5, .phase⟩, ⟨6, .phase⟩, ⟨7, .phase⟩, ⟨8, .phase⟩], none⟩) rfl (fun K hK => ?_) AllReadyH.nil
  rw [if_pos (by rfl)]
  have hN := (show BxJ C n w st 59 [.slice m0a m0.length m0c, .slice m1a m1.length m1c] w7 from hHeld)
  obtain ⟨zs, z1, z2⟩ := hN.br
  have hst := hN.stored [.slice a0 m0.length cap0, .slice a1 m1.length cap1] rfl
  refine owp_storeOff (.tmp 4) (.tmp 13) 59 rfl 2 Tryz.sizeOf59 (w.heap.size + 2) 0 zs (by rw [z1]; simp) 59 z2 rfl [.slice a0 m0.length cap0, .slice a1 m1.length cap1] rfl rfl (by intro v hv; simp at hv; rcases hv with rfl | rfl <;> rfl) ?_
  have hHeld2 := hst.1
  have HL := Lib.hid hst.2
  have HS := Lib.hid (show Sub (NewN C w0.heap.size (w.heap.size + 3) w7) (NewN C w0.heap.size w.heap.size (w7.setCells (w.heap.size + 2) 0 [.slice a0 m0.length cap0, .slice a1 m1.length cap1])) from by
    refine Sub.trans (newN_step (by rw [setCells_size]; exact Nat.le_refl _) (fun b hb e => ?_) fun b _ h1 _ => setCells_other _ w7 _ 0 b fun e => h1 (by have := HLW.out; omega)) (newN_less (Nat.le_add_right _ 3))
    exact (C.keep hN.i (by rw [setCells_size]; exact Nat.le_refl _) (fun b hb => setCells_other _ w7 _ 0 b (by have := hN.low; omega)) (fun b hb => setCells_other _ w7 _ 0 b fun e2 => hN.n2 (by rw [e2] at hb; exact hb))).2 b e)
  clear hst z1 z2 hN hHeld
  have hHeld := hHeld2
  refine hK.out _ _ hHeld (fun _ => ?_)
  clear hK K
  try simp only [Act.put]
  refine wpAnyH_done (by kernel_rfl) ?_ _
  have HJ := Lib.hid (show BxJ C n w st 59 [.slice m0a m0.length m0c, .slice m1a m1.length m1c] _ from hHeld)
  clear hHeld hHeld2
  go_wp2_with fail
  refine bodyPost_ret (v := .agg ⟨[.slice a0 m0.length cap0, .slice a1 m1.length cap1]⟩) ?_ rfl ?_
  · exact results_cell (i := 4) (b := w.heap.size + 2) Tryz.results125 Tryz.isAgg59 Tryz.sizeOf59 rfl rfl HL.out
  · exact ⟨a0, cap0, a1, cap1, rfl, HB0.out.sub HS.out, HB1.out.sub HS.out, HJ.out.i, HJ.out.kept⟩
end Go.Proofs.YtciijpahjjoppaaGreat
end
section
namespace Go.Proofs.YtciijpahjjoppaaGreat
open Go.RowKit Go.Shelf Go.Deep
theorem tinfo24 : (Tryz.prog.info? 24).map (fun i => (i.zero, i.size, i.bytes)) = some (some (.agg #[.int .i64 0, .int .i64 0, .string ⟨#[]⟩, .string ⟨#[]⟩, .slice none 0 0]), 5, 72) := by kernel_rfl
theorem tzero24 (w : World) : (zeroValue 24).run Tryz.prog w = .ok (.agg #[.int .i64 0, .int .i64 0, .string ⟨#[]⟩, .string ⟨#[]⟩, .slice none 0 0]) w := by kernel_rfl
set_option maxRecDepth 100000 in
set_option maxHeartbeats 4000000 in
theorem turnE_any {σ : Type} {g : Nat} {c1 c2 : Value} (C : Clo σ g c1 c2) (w0 : World) (hlow : w0.heap.size ≤ C.low) (f : σ → List D → List D × σ) (h : List D → List ByteArray) (a : Option Addr) (len cap : Nat) (l : List (List D)) (hA : At w0 (.slice a len cap) (.row l)) (hs : ∀ x ∈ l, ShE x) (hl2 : l.length ≤ 8000000)
    (hf : ∀ x ∈ l, TFn C w0 130 f h x) (hfl : ∀ x ∈ l, ∀ s, (f s x).1.length = 5) (n m : Nat) (st : σ) (hm : n + (l.flatMap h).length ≤ m) (W : World) (hI : C.I m st W) (hW : Below w0.heap.size w0 W) :
    Calls Tryz.prog 131 #[.slice a len cap, .func (.func 130) #[.agg #[.func (.func g) #[] #[c1, c2]]] #[]] W (TLPost C w0.heap.size n W (turnL f st l).1 (turnL f st l).2) := by
  have HI := Lib.hid (C.atLeast hI hm)
  have HA := Lib.hid hA
  cases a with
  | none =>
    have h0 : l = [] := by
      cases hA with
      | nil _ _ _ => rfl
    subst h0
    obtain rfl : len = 0 := hA.len_eq.1.symm
    have hn := eql_nil Tryz.underlying22 none 0 cap
    simp only [Option.isNone_none] at hn
    clear hA hI hf
    go_enter Tryz.func131, Tryz.ntmps131
    go_wp2_with fail
    go_ret
    exact ⟨none, 0, rfl, .nil none 0 (by decide), HI.out, Kept.refl _ _ _⟩
  | some ad =>
  have HS := Lib.hid hs
  have HF := Lib.hid hf
  have HFL := Lib.hid hfl
  have HW := Lib.hid hW
  have hle := hA.len_le
  have HL := Lib.hid hA.len_eq.1
  have hlen2 : len ≤ 8000000 := by rw [← hA.len_eq.1]; exact hl2
  have hn := eql_nil Tryz.underlying22 (some ad) len cap
  simp only [Option.isNone_some] at hn
  have eg := enters_of Tryz.func130 (by kernel_rfl) rfl
  obtain ⟨i0, hi, hz0, hz1, hz2⟩ := info_parts tinfo24
  have HLO := Lib.hid hlow
  clear hA hs hf hfl hW hI hlow hm hl2
  go_enter Tryz.func131, Tryz.ntmps131
  go_wp2_with (first
    | (refine wp_makeRow (o := ⟨some 12, _, _, _, _, _⟩) rfl (.tmp 11) 22 24 rfl i0 _ 5 Tryz.underlying22 hi hz0 hz1 len rfl (by rw [hz2]; omega) (by unfold maxLen; omega) ?_; intro w1 hown1 hgrow1))
  have J0 := Lib.hid (TuJ.start (lo := w0.heap.size) (T := 24) (K := 5) HI.out hown1 hgrow1)
  clear hown1 hgrow1
  go_loopw [5, 15] (fun u i wr => ∃ (k : Nat) (v : Value) (vss : List (List Value)), k ≤ len ∧ v = u ∧ i = .int .i64 k ∧ Hid (TuJ C w0.heap.size (n + ((l.drop k).flatMap h).length) W (turnL f st (l.take k)).2 24 5 v k vss (turnL f st (l.take k)).1 wr)) (fun _ i _ => len - (intOf i).toNat)
  case atStart => exact ⟨0, _, [], Nat.zero_le _, rfl, rfl, J0⟩
  case round =>
    obtain ⟨k, v, vss, hk, rfl, rfl, HJ⟩ := hrel
    by_cases hlt : k < len
    · obtain ⟨b, o, vs, ds, hab, hbl, hx, hv, hc⟩ := HA.out.elem hlt
      obtain rfl : ad = ⟨b, o, none⟩ := by cases hab; rfl
      have hdl : ds.length = 5 := (HS.out _ (List.mem_of_getElem? hx)).ln
      rw [hdl] at hc
      have hvl := Lib.hid (hv.len.trans hdl)
      have hvo := Lib.hid hv.one
      have B0 := Lib.hid (HJ.out.kept.ground HI.out HLO.out HW.out)
      have hbw : b < wr.heap.size := Nat.lt_of_lt_of_le hbl B0.out.size
      have C0 := Lib.hid (show ∀ j v, vs[j]? = some v → wr.cell? ⟨b, o + k * 5 + j, none⟩ = some v from fun j v hv => (B0.out.cell (p := ⟨b, o + k * 5 + j, none⟩) hbl).trans (hc j v hv))
      have C2 := Lib.hid (show ∀ j v, vs[j]? = some v → (wr.alloc (.cells ⟨vs⟩ 24)).cell? ⟨wr.heap.size, 0 + j, none⟩ = some v from fun j v hv => by
        rw [box_cells (heap_new wr (.cells ⟨vs⟩ 24))]
        simpa using hv)
      have N1 := (Below.refl wr.heap.size wr).alloc (Nat.le_refl _) (.cells ⟨vs⟩ 24)
      have J1 := Lib.hid (HJ.out.below N1)
      have DR := Lib.hid (show (l.drop k).flatMap h = h ds ++ (l.drop (k + 1)).flatMap h by rw [dropC hx, List.flatMap_cons])
      have FN := Lib.hid (HF.out ds (List.mem_of_getElem? hx) vs hv (n + ((l.drop (k + 1)).flatMap h).length) _ _ _ (by rw [DR.out, List.length_append]; omega) J1.out.i (B0.out.trans (N1.mono B0.out.size)))
      have TK := Lib.hid (show l.take (k + 1) = l.take k ++ [ds] by rw [List.take_add_one, hx]; rfl)
      have FL := Lib.hid (HFL.out ds (List.mem_of_getElem? hx) (turnL f st (l.take k)).2)
      have HX := Lib.hid hx
      clear hdl hv hc hx hab N1
      go_wp2_with (first
        | ((with_reducible refine wp_loadAgg (o := ⟨some 18, _, _, _, _, _⟩) rfl (.tmp 17) 24 rfl 5 Tryz.isAgg24 Tryz.sizeOf24 b (o + k * 5) ?_ vs hvl.out C0.out ?_); rfl)
        | ((with_reducible refine wp_storeNew (o := ⟨none, .store 24 (.tmp 7) (.tmp 18), _, _, _, _⟩) rfl (.tmp 7) (.tmp 18) 24 rfl 5 Tryz.sizeOf24 _ ?_ ?_ vs ?_ hvl.out hvo.out ?_); rfl; rfl; rfl)
        | ((with_reducible refine wp_loadAgg (o := ⟨some 21, _, _, _, _, _⟩) rfl (.tmp 7) 24 rfl 5 Tryz.isAgg24 Tryz.sizeOf24 wr.heap.size 0 ?_ vs hvl.out C2.out ?_); rfl))
      refine FN.out.mono ?_
      rintro e w3 ⟨vs', rfl, hd, i3, k3⟩
      have J2 := Lib.hid (J1.out.called k3 i3)
      have VL := Lib.hid (hd.len.trans FL.out)
      have VO := Lib.hid hd.one
      have HD := Lib.hid (hd.sub (newN_kept (C.al i3 (.cells ⟨vs'⟩ 24)).1))
      have J3 := Lib.hid (J2.out.below ((Below.refl w3.heap.size w3).alloc (Nat.le_refl _) (.cells ⟨vs'⟩ 24)))
      have HB3 := Lib.hid (show W.heap.size ≤ wr.heap.size ∧ wr.heap.size + 1 ≤ w3.heap.size from ⟨HJ.out.kept.size, by simpa using k3.size⟩)
      have HVN := Lib.hid (fun b (hb : v.ownBlock = some b) => show b < (wr.alloc (.cells ⟨vs⟩ 24)).heap.size by have := (rowBlock HJ.out.row hb).2.1; simp; omega)
      clear hd i3 k3
      go_wp2_with (first
        | ((with_reducible refine wp_buildSlice1 (o := ⟨some 23, _, _, _, _, _⟩) rfl (.tmp 22) 22 24 rfl Tryz.underlying22 5 Tryz.sizeOf24 _ tzero24 (by decide) (by decide) vs' ?_ VL.out ?_); rfl)
        | (at_builtin; refine wpList_append_own_at _ rfl _ _ 22 rfl W.heap.size 24 i0 _ 5 72 Tryz.underlying22 hi hz0 hz1 hz2 rfl (by decide) _ _ _ rfl J3.out.row ⟨w3.heap.size, 0, none⟩ 1 1 vs' rfl (by rw [VL.out]) (fun j u hu => by rw [add_mid2, box_cells (heap_new w3 (.cells ⟨vs'⟩ 24))]; simpa using hu) VO.out (by unfold maxLen; omega) (by omega) (by have := HB3.out; simp; omega) ?_; intro v' w4 hown4 hgrow4 _ hat4))
      have J4 := Lib.hid (J3.out.appended (by have := HW.out.size; omega) VL.out FL.out HD.out (by have := HB3.out; simp; omega) HVN.out hgrow4 hat4 hown4)
      clear hown4 hgrow4 hat4
      go_roundw
      case rel => exact ⟨k + 1, v', vss ++ [vs'], by omega, rfl, by go_num, Lib.hid (by rw [TK.out, turnL_snoc]; exact J4.out)⟩
      case measure => simp [intOf]; omega
    · obtain rfl : k = len := by omega
      obtain ⟨a', cap', hv', hat⟩ := HJ.out.done
      have hil := HJ.out.i
      have hkp := Lib.hid HJ.out.kept
      have HT := Lib.hid (show l.take k = l by rw [← HL.out, List.take_length])
      rw [← HL.out, List.drop_length] at hil
      rw [HL.out, HT.out] at hil
      rw [HT.out] at hv' hat
      have HAT := Lib.hid hat
      have HIL := Lib.hid hil
      clear hat hil HJ
      subst hv'
      go_wp2_with fail
      go_ret
      exact ⟨a', cap', rfl, HAT.out, HIL.out, hkp.out⟩
end Go.Proofs.YtciijpahjjoppaaGreat
end
section
namespace Go.Proofs.YtciijpahjjoppaaGreat
open Go.RowKit Go.Shelf Go.Deep
theorem tinfo65 : (Tryz.prog.info? 65).map (fun i => (i.zero, i.size, i.bytes)) = some (some (.agg #[.slice none 0 0, .slice none 0 0, .string ⟨#[]⟩, .int .i64 0]), 4, 72) := by kernel_rfl
theorem tzero65 (w : World) : (zeroValue 65).run Tryz.prog w = .ok (.agg #[.slice none 0 0, .slice none 0 0, .string ⟨#[]⟩, .int .i64 0]) w := by kernel_rfl
set_option maxRecDepth 100000 in
set_option maxHeartbeats 4000000 in
theorem turnF_any {σ : Type} {g : Nat} {c1 c2 : Value} (C : Clo σ g c1 c2) (w0 : World) (hlow : w0.heap.size ≤ C.low) (f : σ → List D → List D × σ) (h : List D → List ByteArray) (a : Option Addr) (len cap : Nat) (l : List (List D)) (hA : At w0 (.slice a len cap) (.row l)) (hs : ∀ x ∈ l, ShF x) (hl2 : l.length ≤ 8000000)
    (hf : ∀ x ∈ l, TFn C w0 127 f h x) (hfl : ∀ x ∈ l, ∀ s, (f s x).1.length = 4) (n m : Nat) (st : σ) (hm : n + (l.flatMap h).length ≤ m) (W : World) (hI : C.I m st W) (hW : Below w0.heap.size w0 W) :
    Calls Tryz.prog 126 #[.slice a len cap, .func (.func 127) #[.agg #[.func (.func g) #[] #[c1, c2]]] #[]] W (TLPost C w0.heap.size n W (turnL f st l).1 (turnL f st l).2) := by
  have HI := Lib.hid (C.atLeast hI hm)
  have HA := Lib.hid hA
  cases a with
  | none =>
    have h0 : l = [] := by
      cases hA with
      | nil _ _ _ => rfl
    subst h0
    obtain rfl : len = 0 := hA.len_eq.1.symm
    have hn := eql_nil Tryz.underlying60 none 0 cap
    simp only [Option.isNone_none] at hn
    clear hA hI hf
    go_enter Tryz.func126, Tryz.ntmps126
    go_wp2_with fail
    go_ret
    exact ⟨none, 0, rfl, .nil none 0 (by decide), HI.out, Kept.refl _ _ _⟩
  | some ad =>
  have HS := Lib.hid hs
  have HF := Lib.hid hf
  have HFL := Lib.hid hfl
  have HW := Lib.hid hW
  have hle := hA.len_le
  have HL := Lib.hid hA.len_eq.1
  have hlen2 : len ≤ 8000000 := by rw [← hA.len_eq.1]; exact hl2
  have hn := eql_nil Tryz.underlying60 (some ad) len cap
  simp only [Option.isNone_some] at hn
  have eg := enters_of Tryz.func127 (by kernel_rfl) rfl
  obtain ⟨i0, hi, hz0, hz1, hz2⟩ := info_parts tinfo65
  have HLO := Lib.hid hlow
  clear hA hs hf hfl hW hI hlow hm hl2
  go_enter Tryz.func126, Tryz.ntmps126
  go_wp2_with (first
    | (refine wp_makeRow (o := ⟨some 12, _, _, _, _, _⟩) rfl (.tmp 11) 60 65 rfl i0 _ 4 Tryz.underlying60 hi hz0 hz1 len rfl (by rw [hz2]; omega) (by unfold maxLen; omega) ?_; intro w1 hown1 hgrow1))
  have J0 := Lib.hid (TuJ.start (lo := w0.heap.size) (T := 65) (K := 4) HI.out hown1 hgrow1)
  clear hown1 hgrow1
  go_loopw [5, 15] (fun u i wr => ∃ (k : Nat) (v : Value) (vss : List (List Value)), k ≤ len ∧ v = u ∧ i = .int .i64 k ∧ Hid (TuJ C w0.heap.size (n + ((l.drop k).flatMap h).length) W (turnL f st (l.take k)).2 65 4 v k vss (turnL f st (l.take k)).1 wr)) (fun _ i _ => len - (intOf i).toNat)
  case atStart => exact ⟨0, _, [], Nat.zero_le _, rfl, rfl, J0⟩
  case round =>
    obtain ⟨k, v, vss, hk, rfl, rfl, HJ⟩ := hrel
    by_cases hlt : k < len
    · obtain ⟨b, o, vs, ds, hab, hbl, hx, hv, hc⟩ := HA.out.elem hlt
      obtain rfl : ad = ⟨b, o, none⟩ := by cases hab; rfl
      have hdl : ds.length = 4 := (HS.out _ (List.mem_of_getElem? hx)).ln
      rw [hdl] at hc
      have hvl := Lib.hid (hv.len.trans hdl)
      have hvo := Lib.hid hv.one
      have B0 := Lib.hid (HJ.out.kept.ground HI.out HLO.out HW.out)
      have hbw : b < wr.heap.size := Nat.lt_of_lt_of_le hbl B0.out.size
      have C0 := Lib.hid (show ∀ j v, vs[j]? = some v → wr.cell? ⟨b, o + k * 4 + j, none⟩ = some v from fun j v hv => (B0.out.cell (p := ⟨b, o + k * 4 + j, none⟩) hbl).trans (hc j v hv))
      have C2 := Lib.hid (show ∀ j v, vs[j]? = some v → (wr.alloc (.cells ⟨vs⟩ 65)).cell? ⟨wr.heap.size, 0 + j, none⟩ = some v from fun j v hv => by
        rw [box_cells (heap_new wr (.cells ⟨vs⟩ 65))]
        simpa using hv)
      have N1 := (Below.refl wr.heap.size wr).alloc (Nat.le_refl _) (.cells ⟨vs⟩ 65)
      have J1 := Lib.hid (HJ.out.below N1)
      have DR := Lib.hid (show (l.drop k).flatMap h = h ds ++ (l.drop (k + 1)).flatMap h by rw [dropC hx, List.flatMap_cons])
      have FN := Lib.hid (HF.out ds (List.mem_of_getElem? hx) vs hv (n + ((l.drop (k + 1)).flatMap h).length) _ _ _ (by rw [DR.out, List.length_append]; omega) J1.out.i (B0.out.trans (N1.mono B0.out.size)))
      have TK := Lib.hid (show l.take (k + 1) = l.take k ++ [ds] by rw [List.take_add_one, hx]; rfl)
      have FL := Lib.hid (HFL.out ds (List.mem_of_getElem? hx) (turnL f st (l.take k)).2)
      have HX := Lib.hid hx
      clear hdl hv hc hx hab N1
      go_wp2_with (first
        | ((with_reducible refine wp_loadAgg (o := ⟨some 18, _, _, _, _, _⟩) rfl (.tmp 17) 65 rfl 4 Tryz.isAgg65 Tryz.sizeOf65 b (o + k * 4) ?_ vs hvl.out C0.out ?_); rfl)
        | ((with_reducible refine wp_storeNew (o := ⟨none, .store 65 (.tmp 7) (.tmp 18), _, _, _, _⟩) rfl (.tmp 7) (.tmp 18) 65 rfl 4 Tryz.sizeOf65 _ ?_ ?_ vs ?_ hvl.out hvo.out ?_); rfl; rfl; rfl)
        | ((with_reducible refine wp_loadAgg (o := ⟨some 21, _, _, _, _, _⟩) rfl (.tmp 7) 65 rfl 4 Tryz.isAgg65 Tryz.sizeOf65 wr.heap.size 0 ?_ vs hvl.out C2.out ?_); rfl))
      refine FN.out.mono ?_
      rintro e w3 ⟨vs', rfl, hd, i3, k3⟩
      have J2 := Lib.hid (J1.out.called k3 i3)
      have VL := Lib.hid (hd.len.trans FL.out)
      have VO := Lib.hid hd.one
      have HD := Lib.hid (hd.sub (newN_kept (C.al i3 (.cells ⟨vs'⟩ 65)).1))
      have J3 := Lib.hid (J2.out.below ((Below.refl w3.heap.size w3).alloc (Nat.le_refl _) (.cells ⟨vs'⟩ 65)))
      have HB3 := Lib.hid (show W.heap.size ≤ wr.heap.size ∧ wr.heap.size + 1 ≤ w3.heap.size from ⟨HJ.out.kept.size, by simpa using k3.size⟩)
      have HVN := Lib.hid (fun b (hb : v.ownBlock = some b) => show b < (wr.alloc (.cells ⟨vs⟩ 65)).heap.size by have := (rowBlock HJ.out.row hb).2.1; simp; omega)
      clear hd i3 k3
      go_wp2_with (first
        | ((with_reducible refine wp_buildSlice1 (o := ⟨some 23, _, _, _, _, _⟩) rfl (.tmp 22) 60 65 rfl Tryz.underlying60 4 Tryz.sizeOf65 _ tzero65 (by decide) (by decide) vs' ?_ VL.out ?_); rfl)
        | (at_builtin; refine wpList_append_own_at _ rfl _ _ 60 rfl W.heap.size 65 i0 _ 4 72 Tryz.underlying60 hi hz0 hz1 hz2 rfl (by decide) _ _ _ rfl J3.out.row ⟨w3.heap.size, 0, none⟩ 1 1 vs' rfl (by rw [VL.out]) (fun j u hu => by rw [add_mid2, box_cells (heap_new w3 (.cells ⟨vs'⟩ 65))]; simpa using hu) VO.out (by unfold maxLen; omega) (by omega) (by have := HB3.out; simp; omega) ?_; intro v' w4 hown4 hgrow4 _ hat4))
      have J4 := Lib.hid (J3.out.appended (by have := HW.out.size; omega) VL.out FL.out HD.out (by have := HB3.out; simp; omega) HVN.out hgrow4 hat4 hown4)
      clear hown4 hgrow4 hat4
      go_roundw
      case rel => exact ⟨k + 1, v', vss ++ [vs'], by omega, rfl, by go_num, Lib.hid (by rw [TK.out, turnL_snoc]; exact J4.out)⟩
      case measure => simp [intOf]; omega
    · obtain rfl : k = len := by omega
      obtain ⟨a', cap', hv', hat⟩ := HJ.out.done
      have hil := HJ.out.i
      have hkp := Lib.hid HJ.out.kept
      have HT := Lib.hid (show l.take k = l by rw [← HL.out, List.take_length])
      rw [← HL.out, List.drop_length] at hil
      rw [HL.out, HT.out] at hil
      rw [HT.out] at hv' hat
      have HAT := Lib.hid hat
      have HIL := Lib.hid hil
      clear hat hil HJ
      subst hv'
      go_wp2_with fail
      go_ret
      exact ⟨a', cap', rfl, HAT.out, HIL.out, hkp.out⟩
end Go.Proofs.YtciijpahjjoppaaGreat
end
section
namespace Go.Proofs.YtciijpahjjoppaaGreat
open Go.RowKit Go.Shelf Go.Deep
theorem tinfo62 : (Tryz.prog.info? 62).map (fun i => (i.zero, i.size, i.bytes)) = some (some (.agg #[.slice none 0 0, .slice none 0 0, .string ⟨#[]⟩, .slice none 0 0, .slice none 0 0]), 5, 112) := by kernel_rfl
theorem tzero62 (w : World) : (zeroValue 62).run Tryz.prog w = .ok (.agg #[.slice none 0 0, .slice none 0 0, .string ⟨#[]⟩, .slice none 0 0, .slice none 0 0]) w := by kernel_rfl
set_option maxRecDepth 100000 in
set_option maxHeartbeats 4000000 in
theorem turnC_any {σ : Type} {g : Nat} {c1 c2 : Value} (C : Clo σ g c1 c2) (w0 : World) (hlow : w0.heap.size ≤ C.low) (f : σ → List D → List D × σ) (h : List D → List ByteArray) (a : Option Addr) (len cap : Nat) (l : List (List D)) (hA : At w0 (.slice a len cap) (.row l)) (hs : ∀ x ∈ l, ShC x) (hl2 : l.length ≤ 8000000)
    (hf : ∀ x ∈ l, TFn C w0 89 f h x) (hfl : ∀ x ∈ l, ∀ s, (f s x).1.length = 5) (n m : Nat) (st : σ) (hm : n + (l.flatMap h).length ≤ m) (W : World) (hI : C.I m st W) (hW : Below w0.heap.size w0 W) :
    Calls Tryz.prog 88 #[.slice a len cap, .func (.func 89) #[.agg #[.func (.func g) #[] #[c1, c2]]] #[]] W (TLPost C w0.heap.size n W (turnL f st l).1 (turnL f st l).2) := by
  have HI := Lib.hid (C.atLeast hI hm)
  have HA := Lib.hid hA
  cases a with
  | none =>
    have h0 : l = [] := by
      cases hA with
      | nil _ _ _ => rfl
    subst h0
    obtain rfl : len = 0 := hA.len_eq.1.symm
    have hn := eql_nil Tryz.underlying30 none 0 cap
    simp only [Option.isNone_none] at hn
    clear hA hI hf
    go_enter Tryz.func88, Tryz.ntmps88
    go_wp2_with fail
    go_ret
    exact ⟨none, 0, rfl, .nil none 0 (by decide), HI.out, Kept.refl _ _ _⟩
  | some ad =>
  have HS := Lib.hid hs
  have HF := Lib.hid hf
  have HFL := Lib.hid hfl
  have HW := Lib.hid hW
  have hle := hA.len_le
  have HL := Lib.hid hA.len_eq.1
  have hlen2 : len ≤ 8000000 := by rw [← hA.len_eq.1]; exact hl2
  have hn := eql_nil Tryz.underlying30 (some ad) len cap
  simp only [Option.isNone_some] at hn
  have eg := enters_of Tryz.func89 (by kernel_rfl) rfl
  obtain ⟨i0, hi, hz0, hz1, hz2⟩ := info_parts tinfo62
  have HLO := Lib.hid hlow
  clear hA hs hf hfl hW hI hlow hm hl2
  go_enter Tryz.func88, Tryz.ntmps88
  go_wp2_with (first
    | (refine wp_makeRow (o := ⟨some 12, _, _, _, _, _⟩) rfl (.tmp 11) 30 62 rfl i0 _ 5 Tryz.underlying30 hi hz0 hz1 len rfl (by rw [hz2]; omega) (by unfold maxLen; omega) ?_; intro w1 hown1 hgrow1))
  have J0 := Lib.hid (TuJ.start (lo := w0.heap.size) (T := 62) (K := 5) HI.out hown1 hgrow1)
  clear hown1 hgrow1
  go_loopw [5, 15] (fun u i wr => ∃ (k : Nat) (v : Value) (vss : List (List Value)), k ≤ len ∧ v = u ∧ i = .int .i64 k ∧ Hid (TuJ C w0.heap.size (n + ((l.drop k).flatMap h).length) W (turnL f st (l.take k)).2 62 5 v k vss (turnL f st (l.take k)).1 wr)) (fun _ i _ => len - (intOf i).toNat)
  case atStart => exact ⟨0, _, [], Nat.zero_le _, rfl, rfl, J0⟩
  case round =>
    obtain ⟨k, v, vss, hk, rfl, rfl, HJ⟩ := hrel
    by_cases hlt : k < len
    · obtain ⟨b, o, vs, ds, hab, hbl, hx, hv, hc⟩ := HA.out.elem hlt
      obtain rfl : ad = ⟨b, o, none⟩ := by cases hab; rfl
      have hdl : ds.length = 5 := (HS.out _ (List.mem_of_getElem? hx)).ln
      rw [hdl] at hc
      have hvl := Lib.hid (hv.len.trans hdl)
      have hvo := Lib.hid hv.one
      have B0 := Lib.hid (HJ.out.kept.ground HI.out HLO.out HW.out)
      have hbw : b < wr.heap.size := Nat.lt_of_lt_of_le hbl B0.out.size
      have C0 := Lib.hid (show ∀ j v, vs[j]? = some v → wr.cell? ⟨b, o + k * 5 + j, none⟩ = some v from fun j v hv => (B0.out.cell (p := ⟨b, o + k * 5 + j, none⟩) hbl).trans (hc j v hv))
      have C2 := Lib.hid (show ∀ j v, vs[j]? = some v → (wr.alloc (.cells ⟨vs⟩ 62)).cell? ⟨wr.heap.size, 0 + j, none⟩ = some v from fun j v hv => by
        rw [box_cells (heap_new wr (.cells ⟨vs⟩ 62))]
        simpa using hv)
      have N1 := (Below.refl wr.heap.size wr).alloc (Nat.le_refl _) (.cells ⟨vs⟩ 62)
      have J1 := Lib.hid (HJ.out.below N1)
      have DR := Lib.hid (show (l.drop k).flatMap h = h ds ++ (l.drop (k + 1)).flatMap h by rw [dropC hx, List.flatMap_cons])
      have FN := Lib.hid (HF.out ds (List.mem_of_getElem? hx) vs hv (n + ((l.drop (k + 1)).flatMap h).length) _ _ _ (by rw [DR.out, List.length_append]; omega) J1.out.i (B0.out.trans (N1.mono B0.out.size)))
      have TK := Lib.hid (show l.take (k + 1) = l.take k ++ [ds] by rw [List.take_add_one, hx]; rfl)
      have FL := Lib.hid (HFL.out ds (List.mem_of_getElem? hx) (turnL f st (l.take k)).2)
      have HX := Lib.hid hx
      clear hdl hv hc hx hab N1
      go_wp2_with (first
        | ((with_reducible refine wp_loadAgg (o := ⟨some 18, _, _, _, _, _⟩) rfl (.tmp 17) 62 rfl 5 Tryz.isAgg62 Tryz.sizeOf62 b (o + k * 5) ?_ vs hvl.out C0.out ?_); rfl)
        | ((with_reducible refine wp_storeNew (o := ⟨none, .store 62 (.tmp 7) (.tmp 18), _, _, _, _⟩) rfl (.tmp 7) (.tmp 18) 62 rfl 5 Tryz.sizeOf62 _ ?_ ?_ vs ?_ hvl.out hvo.out ?_); rfl; rfl; rfl)
        | ((with_reducible refine wp_loadAgg (o := ⟨some 21, _, _, _, _, _⟩) rfl (.tmp 7) 62 rfl 5 Tryz.isAgg62 Tryz.sizeOf62 wr.heap.size 0 ?_ vs hvl.out C2.out ?_); rfl))
      refine FN.out.mono ?_
      rintro e w3 ⟨vs', rfl, hd, i3, k3⟩
      have J2 := Lib.hid (J1.out.called k3 i3)
      have VL := Lib.hid (hd.len.trans FL.out)
      have VO := Lib.hid hd.one
      have HD := Lib.hid (hd.sub (newN_kept (C.al i3 (.cells ⟨vs'⟩ 62)).1))
      have J3 := Lib.hid (J2.out.below ((Below.refl w3.heap.size w3).alloc (Nat.le_refl _) (.cells ⟨vs'⟩ 62)))
      have HB3 := Lib.hid (show W.heap.size ≤ wr.heap.size ∧ wr.heap.size + 1 ≤ w3.heap.size from ⟨HJ.out.kept.size, by simpa using k3.size⟩)
      have HVN := Lib.hid (fun b (hb : v.ownBlock = some b) => show b < (wr.alloc (.cells ⟨vs⟩ 62)).heap.size by have := (rowBlock HJ.out.row hb).2.1; simp; omega)
      clear hd i3 k3
      go_wp2_with (first
        | ((with_reducible refine wp_buildSlice1 (o := ⟨some 23, _, _, _, _, _⟩) rfl (.tmp 22) 30 62 rfl Tryz.underlying30 5 Tryz.sizeOf62 _ tzero62 (by decide) (by decide) vs' ?_ VL.out ?_); rfl)
        | (at_builtin; refine wpList_append_own_at _ rfl _ _ 30 rfl W.heap.size 62 i0 _ 5 112 Tryz.underlying30 hi hz0 hz1 hz2 rfl (by decide) _ _ _ rfl J3.out.row ⟨w3.heap.size, 0, none⟩ 1 1 vs' rfl (by rw [VL.out]) (fun j u hu => by rw [add_mid2, box_cells (heap_new w3 (.cells ⟨vs'⟩ 62))]; simpa using hu) VO.out (by unfold maxLen; omega) (by omega) (by have := HB3.out; simp; omega) ?_; intro v' w4 hown4 hgrow4 _ hat4))
      have J4 := Lib.hid (J3.out.appended (by have := HW.out.size; omega) VL.out FL.out HD.out (by have := HB3.out; simp; omega) HVN.out hgrow4 hat4 hown4)
      clear hown4 hgrow4 hat4
      go_roundw
      case rel => exact ⟨k + 1, v', vss ++ [vs'], by omega, rfl, by go_num, Lib.hid (by rw [TK.out, turnL_snoc]; exact J4.out)⟩
      case measure => simp [intOf]; omega
    · obtain rfl : k = len := by omega
      obtain ⟨a', cap', hv', hat⟩ := HJ.out.done
      have hil := HJ.out.i
      have hkp := Lib.hid HJ.out.kept
      have HT := Lib.hid (show l.take k = l by rw [← HL.out, List.take_length])
      rw [← HL.out, List.drop_length] at hil
      rw [HL.out, HT.out] at hil
      rw [HT.out] at hv' hat
      have HAT := Lib.hid hat
      have HIL := Lib.hid hil
      clear hat hil HJ
      subst hv'
      go_wp2_with fail
      go_ret
      exact ⟨a', cap', rfl, HAT.out, HIL.out, hkp.out⟩
end Go.Proofs.YtciijpahjjoppaaGreat
end
section
namespace Go.Proofs.YtciijpahjjoppaaGreat
open Go.RowKit Go.Shelf Go.Deep
theorem tinfo75 : (Tryz.prog.info? 75).map (fun i => (i.zero, i.size, i.bytes)) = some (some (.agg #[.slice none 0 0, .slice none 0 0, .string ⟨#[]⟩, .int .i64 0, .int .i64 0, .string ⟨#[]⟩]), 6, 96) := by kernel_rfl
theorem tzero75 (w : World) : (zeroValue 75).run Tryz.prog w = .ok (.agg #[.slice none 0 0, .slice none 0 0, .string ⟨#[]⟩, .int .i64 0, .int .i64 0, .string ⟨#[]⟩]) w := by kernel_rfl
set_option maxRecDepth 100000 in
set_option maxHeartbeats 4000000 in
theorem turnV_any {σ : Type} {g : Nat} {c1 c2 : Value} (C : Clo σ g c1 c2) (w0 : World) (hlow : w0.heap.size ≤ C.low) (f : σ → List D → List D × σ) (h : List D → List ByteArray) (a : Option Addr) (len cap : Nat) (l : List (List D)) (hA : At w0 (.slice a len cap) (.row l)) (hs : ∀ x ∈ l, ShV x) (hl2 : l.length ≤ 8000000)
    (hf : ∀ x ∈ l, TFn C w0 91 f h x) (hfl : ∀ x ∈ l, ∀ s, (f s x).1.length = 6) (n m : Nat) (st : σ) (hm : n + (l.flatMap h).length ≤ m) (W : World) (hI : C.I m st W) (hW : Below w0.heap.size w0 W) :
    Calls Tryz.prog 90 #[.slice a len cap, .func (.func 91) #[.agg #[.func (.func g) #[] #[c1, c2]]] #[]] W (TLPost C w0.heap.size n W (turnL f st l).1 (turnL f st l).2) := by
  have HI := Lib.hid (C.atLeast hI hm)
  have HA := Lib.hid hA
  cases a with
  | none =>
    have h0 : l = [] := by
      cases hA with
      | nil _ _ _ => rfl
    subst h0
    obtain rfl : len = 0 := hA.len_eq.1.symm
    have hn := eql_nil Tryz.underlying31 none 0 cap
    simp only [Option.isNone_none] at hn
    clear hA hI hf
    go_enter Tryz.func90, Tryz.ntmps90
    go_wp2_with fail
    go_ret
    exact ⟨none, 0, rfl, .nil none 0 (by decide), HI.out, Kept.refl _ _ _⟩
  | some ad =>
  have HS := Lib.hid hs
  have HF := Lib.hid hf
  have HFL := Lib.hid hfl
  have HW := Lib.hid hW
  have hle := hA.len_le
  have HL := Lib.hid hA.len_eq.1
  have hlen2 : len ≤ 8000000 := by rw [← hA.len_eq.1]; exact hl2
  have hn := eql_nil Tryz.underlying31 (some ad) len cap
  simp only [Option.isNone_some] at hn
  have eg := enters_of Tryz.func91 (by kernel_rfl) rfl
  obtain ⟨i0, hi, hz0, hz1, hz2⟩ := info_parts tinfo75
  have HLO := Lib.hid hlow
  clear hA hs hf hfl hW hI hlow hm hl2
  go_enter Tryz.func90, Tryz.ntmps90
  go_wp2_with (first
    | (refine wp_makeRow (o := ⟨some 12, _, _, _, _, _⟩) rfl (.tmp 11) 31 75 rfl i0 _ 6 Tryz.underlying31 hi hz0 hz1 len rfl (by rw [hz2]; omega) (by unfold maxLen; omega) ?_; intro w1 hown1 hgrow1))
  have J0 := Lib.hid (TuJ.start (lo := w0.heap.size) (T := 75) (K := 6) HI.out hown1 hgrow1)
  clear hown1 hgrow1
  go_loopw [5, 15] (fun u i wr => ∃ (k : Nat) (v : Value) (vss : List (List Value)), k ≤ len ∧ v = u ∧ i = .int .i64 k ∧ Hid (TuJ C w0.heap.size (n + ((l.drop k).flatMap h).length) W (turnL f st (l.take k)).2 75 6 v k vss (turnL f st (l.take k)).1 wr)) (fun _ i _ => len - (intOf i).toNat)
  case atStart => exact ⟨0, _, [], Nat.zero_le _, rfl, rfl, J0⟩
  case round =>
    obtain ⟨k, v, vss, hk, rfl, rfl, HJ⟩ := hrel
    by_cases hlt : k < len
    · obtain ⟨b, o, vs, ds, hab, hbl, hx, hv, hc⟩ := HA.out.elem hlt
      obtain rfl : ad = ⟨b, o, none⟩ := by cases hab; rfl
      have hdl : ds.length = 6 := (HS.out _ (List.mem_of_getElem? hx)).ln
      rw [hdl] at hc
      have hvl := Lib.hid (hv.len.trans hdl)
      have hvo := Lib.hid hv.one
      have B0 := Lib.hid (HJ.out.kept.ground HI.out HLO.out HW.out)
      have hbw : b < wr.heap.size := Nat.lt_of_lt_of_le hbl B0.out.size
      have C0 := Lib.hid (show ∀ j v, vs[j]? = some v → wr.cell? ⟨b, o + k * 6 + j, none⟩ = some v from fun j v hv => (B0.out.cell (p := ⟨b, o + k * 6 + j, none⟩) hbl).trans (hc j v hv))
      have C2 := Lib.hid (show ∀ j v, vs[j]? = some v → (wr.alloc (.cells ⟨vs⟩ 75)).cell? ⟨wr.heap.size, 0 + j, none⟩ = some v from fun j v hv => by
        rw [box_cells (heap_new wr (.cells ⟨vs⟩ 75))]
        simpa using hv)
      have N1 := (Below.refl wr.heap.size wr).alloc (Nat.le_refl _) (.cells ⟨vs⟩ 75)
      have J1 := Lib.hid (HJ.out.below N1)
      have DR := Lib.hid (show (l.drop k).flatMap h = h ds ++ (l.drop (k + 1)).flatMap h by rw [dropC hx, List.flatMap_cons])
      have FN := Lib.hid (HF.out ds (List.mem_of_getElem? hx) vs hv (n + ((l.drop (k + 1)).flatMap h).length) _ _ _ (by rw [DR.out, List.length_append]; omega) J1.out.i (B0.out.trans (N1.mono B0.out.size)))
      have TK := Lib.hid (show l.take (k + 1) = l.take k ++ [ds] by rw [List.take_add_one, hx]; rfl)
      have FL := Lib.hid (HFL.out ds (List.mem_of_getElem? hx) (turnL f st (l.take k)).2)
      have HX := Lib.hid hx
      clear hdl hv hc hx hab N1
      go_wp2_with (first
        | ((with_reducible refine wp_loadAgg (o := ⟨some 18, _, _, _, _, _⟩) rfl (.tmp 17) 75 rfl 6 Tryz.isAgg75 Tryz.sizeOf75 b (o + k * 6) ?_ vs hvl.out C0.out ?_); rfl)
        | ((with_reducible refine wp_storeNew (o := ⟨none, .store 75 (.tmp 7) (.tmp 18), _, _, _, _⟩) rfl (.tmp 7) (.tmp 18) 75 rfl 6 Tryz.sizeOf75 _ ?_ ?_ vs ?_ hvl.out hvo.out ?_); rfl; rfl; rfl)
        | ((with_reducible refine wp_loadAgg (o := ⟨some 21, _, _, _, _, _⟩) rfl (.tmp 7) 75 rfl 6 Tryz.isAgg75 Tryz.sizeOf75 wr.heap.size 0 ?_ vs hvl.out C2.out ?_); rfl))
      refine FN.out.mono ?_
      rintro e w3 ⟨vs', rfl, hd, i3, k3⟩
      have J2 := Lib.hid (J1.out.called k3 i3)
      have VL := Lib.hid (hd.len.trans FL.out)
      have VO := Lib.hid hd.one
      have HD := Lib.hid (hd.sub (newN_kept (C.al i3 (.cells ⟨vs'⟩ 75)).1))
      have J3 := Lib.hid (J2.out.below ((Below.refl w3.heap.size w3).alloc (Nat.le_refl _) (.cells ⟨vs'⟩ 75)))
      have HB3 := Lib.hid (show W.heap.size ≤ wr.heap.size ∧ wr.heap.size + 1 ≤ w3.heap.size from ⟨HJ.out.kept.size, by simpa using k3.size⟩)
      have HVN := Lib.hid (fun b (hb : v.ownBlock = some b) => show b < (wr.alloc (.cells ⟨vs⟩ 75)).heap.size by have := (rowBlock HJ.out.row hb).2.1; simp; omega)
      clear hd i3 k3
      go_wp2_with (first
        | ((with_reducible refine wp_buildSlice1 (o := ⟨some 23, _, _, _, _, _⟩) rfl (.tmp 22) 31 75 rfl Tryz.underlying31 6 Tryz.sizeOf75 _ tzero75 (by decide) (by decide) vs' ?_ VL.out ?_); rfl)
        | (at_builtin; refine wpList_append_own_at _ rfl _ _ 31 rfl W.heap.size 75 i0 _ 6 96 Tryz.underlying31 hi hz0 hz1 hz2 rfl (by decide) _ _ _ rfl J3.out.row ⟨w3.heap.size, 0, none⟩ 1 1 vs' rfl (by rw [VL.out]) (fun j u hu => by rw [add_mid2, box_cells (heap_new w3 (.cells ⟨vs'⟩ 75))]; simpa using hu) VO.out (by unfold maxLen; omega) (by omega) (by have := HB3.out; simp; omega) ?_; intro v' w4 hown4 hgrow4 _ hat4))
      have J4 := Lib.hid (J3.out.appended (by have := HW.out.size; omega) VL.out FL.out HD.out (by have := HB3.out; simp; omega) HVN.out hgrow4 hat4 hown4)
      clear hown4 hgrow4 hat4
      go_roundw
      case rel => exact ⟨k + 1, v', vss ++ [vs'], by omega, rfl, by go_num, Lib.hid (by rw [TK.out, turnL_snoc]; exact J4.out)⟩
      case measure => simp [intOf]; omega
    · obtain rfl : k = len := by omega
      obtain ⟨a', cap', hv', hat⟩ := HJ.out.done
      have hil := HJ.out.i
      have hkp := Lib.hid HJ.out.kept
      have HT := Lib.hid (show l.take k = l by rw [← HL.out, List.take_length])
      rw [← HL.out, List.drop_length] at hil
      rw [HL.out, HT.out] at hil
      rw [HT.out] at hv' hat
      have HAT := Lib.hid hat
      have HIL := Lib.hid hil
      clear hat hil HJ
      subst hv'
      go_wp2_with fail
      go_ret
      exact ⟨a', cap', rfl, HAT.out, HIL.out, hkp.out⟩
end Go.Proofs.YtciijpahjjoppaaGreat
end
section
namespace Go.Proofs.YtciijpahjjoppaaGreat
open Go.RowKit Go.Shelf Go.Deep
theorem tinfo133 : (Tryz.prog.info? 133).map (fun i => (i.zero, i.size, i.bytes)) = some (some (.agg #[.string ⟨#[]⟩, .int .i64 0, .int .i64 0, .string ⟨#[]⟩, .int .i64 0]), 5, 56) := by kernel_rfl
theorem tzero133 (w : World) : (zeroValue 133).run Tryz.prog w = .ok (.agg #[.string ⟨#[]⟩, .int .i64 0, .int .i64 0, .string ⟨#[]⟩, .int .i64 0]) w := by kernel_rfl
set_option maxRecDepth 100000 in
set_option maxHeartbeats 4000000 in
theorem turnP_any {σ : Type} {g : Nat} {c1 c2 : Value} (C : Clo σ g c1 c2) (w0 : World) (hlow : w0.heap.size ≤ C.low) (f : σ → List D → List D × σ) (h : List D → List ByteArray) (a : Option Addr) (len cap : Nat) (l : List (List D)) (hA : At w0 (.slice a len cap) (.row l)) (hs : ∀ x ∈ l, ShP x) (hl2 : l.length ≤ 8000000)
    (hf : ∀ x ∈ l, TFn C w0 129 f h x) (hfl : ∀ x ∈ l, ∀ s, (f s x).1.length = 5) (n m : Nat) (st : σ) (hm : n + (l.flatMap h).length ≤ m) (W : World) (hI : C.I m st W) (hW : Below w0.heap.size w0 W) :
    Calls Tryz.prog 128 #[.slice a len cap, .func (.func 129) #[.agg #[.func (.func g) #[] #[c1, c2]]] #[]] W (TLPost C w0.heap.size n W (turnL f st l).1 (turnL f st l).2) := by
  have HI := Lib.hid (C.atLeast hI hm)
  have HA := Lib.hid hA
  cases a with
  | none =>
    have h0 : l = [] := by
      cases hA with
      | nil _ _ _ => rfl
    subst h0
    obtain rfl : len = 0 := hA.len_eq.1.symm
    have hn := eql_nil Tryz.underlying78 none 0 cap
    simp only [Option.isNone_none] at hn
    clear hA hI hf
    go_enter Tryz.func128, Tryz.ntmps128
    go_wp2_with fail
    go_ret
    exact ⟨none, 0, rfl, .nil none 0 (by decide), HI.out, Kept.refl _ _ _⟩
  | some ad =>
  have HS := Lib.hid hs
  have HF := Lib.hid hf
  have HFL := Lib.hid hfl
  have HW := Lib.hid hW
  have hle := hA.len_le
  have HL := Lib.hid hA.len_eq.1
  have hlen2 : len ≤ 8000000 := by rw [← hA.len_eq.1]; exact hl2
  have hn := eql_nil Tryz.underlying78 (some ad) len cap
  simp only [Option.isNone_some] at hn
  have eg := enters_of Tryz.func129 (by kernel_rfl) rfl
  obtain ⟨i0, hi, hz0, hz1, hz2⟩ := info_parts tinfo133
  have HLO := Lib.hid hlow
  clear hA hs hf hfl hW hI hlow hm hl2
  go_enter Tryz.func128, Tryz.ntmps128
  go_wp2_with (first
    | (refine wp_makeRow (o := ⟨some 12, _, _, _, _, _⟩) rfl (.tmp 11) 78 133 rfl i0 _ 5 Tryz.underlying78 hi hz0 hz1 len rfl (by rw [hz2]; omega) (by unfold maxLen; omega) ?_; intro w1 hown1 hgrow1))
  have J0 := Lib.hid (TuJ.start (lo := w0.heap.size) (T := 133) (K := 5) HI.out hown1 hgrow1)
  clear hown1 hgrow1
  go_loopw [5, 15] (fun u i wr => ∃ (k : Nat) (v : Value) (vss : List (List Value)), k ≤ len ∧ v = u ∧ i = .int .i64 k ∧ Hid (TuJ C w0.heap.size (n + ((l.drop k).flatMap h).length) W (turnL f st (l.take k)).2 133 5 v k vss (turnL f st (l.take k)).1 wr)) (fun _ i _ => len - (intOf i).toNat)
  case atStart => exact ⟨0, _, [], Nat.zero_le _, rfl, rfl, J0⟩
  case round =>
    obtain ⟨k, v, vss, hk, rfl, rfl, HJ⟩ := hrel
    by_cases hlt : k < len
    · obtain ⟨b, o, vs, ds, hab, hbl, hx, hv, hc⟩ := HA.out.elem hlt
      obtain rfl : ad = ⟨b, o, none⟩ := by cases hab; rfl
      have hdl : ds.length = 5 := (HS.out _ (List.mem_of_getElem? hx)).ln
      rw [hdl] at hc
      have hvl := Lib.hid (hv.len.trans hdl)
      have hvo := Lib.hid hv.one
      have B0 := Lib.hid (HJ.out.kept.ground HI.out HLO.out HW.out)
      have hbw : b < wr.heap.size := Nat.lt_of_lt_of_le hbl B0.out.size
      have C0 := Lib.hid (show ∀ j v, vs[j]? = some v → wr.cell? ⟨b, o + k * 5 + j, none⟩ = some v from fun j v hv => (B0.out.cell (p := ⟨b, o + k * 5 + j, none⟩) hbl).trans (hc j v hv))
      have C2 := Lib.hid (show ∀ j v, vs[j]? = some v → (wr.alloc (.cells ⟨vs⟩ 133)).cell? ⟨wr.heap.size, 0 + j, none⟩ = some v from fun j v hv => by
        rw [box_cells (heap_new wr (.cells ⟨vs⟩ 133))]
        simpa using hv)
      have N1 := (Below.refl wr.heap.size wr).alloc (Nat.le_refl _) (.cells ⟨vs⟩ 133)
      have J1 := Lib.hid (HJ.out.below N1)
      have DR := Lib.hid (show (l.drop k).flatMap h = h ds ++ (l.drop (k + 1)).flatMap h by rw [dropC hx, List.flatMap_cons])
      have FN := Lib.hid (HF.out ds (List.mem_of_getElem? hx) vs hv (n + ((l.drop (k + 1)).flatMap h).length) _ _ _ (by rw [DR.out, List.length_append]; omega) J1.out.i (B0.out.trans (N1.mono B0.out.size)))
      have TK := Lib.hid (show l.take (k + 1) = l.take k ++ [ds] by rw [List.take_add_one, hx]; rfl)
      have FL := Lib.hid (HFL.out ds (List.mem_of_getElem? hx) (turnL f st (l.take k)).2)
      have HX := Lib.hid hx
      clear hdl hv hc hx hab N1
      go_wp2_with (first
        | ((with_reducible refine wp_loadAgg (o := ⟨some 18, _, _, _, _, _⟩) rfl (.tmp 17) 133 rfl 5 Tryz.isAgg133 Tryz.sizeOf133 b (o + k * 5) ?_ vs hvl.out C0.out ?_); rfl)
        | ((with_reducible refine wp_storeNew (o := ⟨none, .store 133 (.tmp 7) (.tmp 18), _, _, _, _⟩) rfl (.tmp 7) (.tmp 18) 133 rfl 5 Tryz.sizeOf133 _ ?_ ?_ vs ?_ hvl.out hvo.out ?_); rfl; rfl; rfl)
        | ((with_reducible refine wp_loadAgg (o := ⟨some 21, _, _, _, _, _⟩) rfl (.tmp 7) 133 rfl 5 Tryz.isAgg133 Tryz.sizeOf133 wr.heap.size 0 ?_ vs hvl.out C2.out ?_); rfl))
      refine FN.out.mono ?_
      rintro e w3 ⟨vs', rfl, hd, i3, k3⟩
      have J2 := Lib.hid (J1.out.called k3 i3)
      have VL := Lib.hid (hd.len.trans FL.out)
      have VO := Lib.hid hd.one
      have HD := Lib.hid (hd.sub (newN_kept (C.al i3 (.cells ⟨vs'⟩ 133)).1))
      have J3 := Lib.hid (J2.out.below ((Below.refl w3.heap.size w3).alloc (Nat.le_refl _) (.cells ⟨vs'⟩ 133)))
      have HB3 := Lib.hid (show W.heap.size ≤ wr.heap.size ∧ wr.heap.size + 1 ≤ w3.heap.size from ⟨HJ.out.kept.size, by simpa using k3.size⟩)
      have HVN := Lib.hid (fun b (hb : v.ownBlock = some b) => show b < (wr.alloc (.cells ⟨vs⟩ 133)).heap.size by have := (rowBlock HJ.out.row hb).2.1; simp; omega)
      clear hd i3 k3
      go_wp2_with (first
        | ((with_reducible refine wp_buildSlice1 (o := ⟨some 23, _, _, _, _, _⟩) rfl (.tmp 22) 78 133 rfl Tryz.underlying78 5 Tryz.sizeOf133 _ tzero133 (by decide) (by decide) vs' ?_ VL.out ?_); rfl)
        | (at_builtin; refine wpList_append_own_at _ rfl _ _ 78 rfl W.heap.size 133 i0 _ 5 56 Tryz.underlying78 hi hz0 hz1 hz2 rfl (by decide) _ _ _ rfl J3.out.row ⟨w3.heap.size, 0, none⟩ 1 1 vs' rfl (by rw [VL.out]) (fun j u hu => by rw [add_mid2, box_cells (heap_new w3 (.cells ⟨vs'⟩ 133))]; simpa using hu) VO.out (by unfold maxLen; omega) (by omega) (by have := HB3.out; simp; omega) ?_; intro v' w4 hown4 hgrow4 _ hat4))
      have J4 := Lib.hid (J3.out.appended (by have := HW.out.size; omega) VL.out FL.out HD.out (by have := HB3.out; simp; omega) HVN.out hgrow4 hat4 hown4)
      clear hown4 hgrow4 hat4
      go_roundw
      case rel => exact ⟨k + 1, v', vss ++ [vs'], by omega, rfl, by go_num, Lib.hid (by rw [TK.out, turnL_snoc]; exact J4.out)⟩
      case measure => simp [intOf]; omega
    · obtain rfl : k = len := by omega
      obtain ⟨a', cap', hv', hat⟩ := HJ.out.done
      have hil := HJ.out.i
      have hkp := Lib.hid HJ.out.kept
      have HT := Lib.hid (show l.take k = l by rw [← HL.out, List.take_length])
      rw [← HL.out, List.drop_length] at hil
      rw [HL.out, HT.out] at hil
      rw [HT.out] at hv' hat
      have HAT := Lib.hid hat
      have HIL := Lib.hid hil
      clear hat hil HJ
      subst hv'
      go_wp2_with fail
      go_ret
      exact ⟨a', cap', rfl, HAT.out, HIL.out, hkp.out⟩
end Go.Proofs.YtciijpahjjoppaaGreat
end
section
namespace Go.Proofs.YtciijpahjjoppaaGreat
open Go.RowKit Go.Shelf Go.Deep
theorem tinfo84 : (Tryz.prog.info? 84).map (fun i => (i.zero, i.size, i.bytes)) = some (some (.agg #[.slice none 0 0, .slice none 0 0, .int .i64 0, .string ⟨#[]⟩, .int .i64 0, .int .i64 0, .string ⟨#[]⟩, .string ⟨#[]⟩, .slice none 0 0, .slice none 0 0, .bool false, .bool false, .slice none 0 0, .slice none 0 0, .slice none 0 0, .slice none 0 0]), 16, 272) := by kernel_rfl
theorem tzero84 (w : World) : (zeroValue 84).run Tryz.prog w = .ok (.agg #[.slice none 0 0, .slice none 0 0, .int .i64 0, .string ⟨#[]⟩, .int .i64 0, .int .i64 0, .string ⟨#[]⟩, .string ⟨#[]⟩, .slice none 0 0, .slice none 0 0, .bool false, .bool false, .slice none 0 0, .slice none 0 0, .slice none 0 0, .slice none 0 0]) w := by kernel_rfl
set_option maxRecDepth 100000 in
set_option maxHeartbeats 4000000 in
theorem turnS_any {σ : Type} {g : Nat} {c1 c2 : Value} (C : Clo σ g c1 c2) (w0 : World) (hlow : w0.heap.size ≤ C.low) (f : σ → List D → List D × σ) (h : List D → List ByteArray) (a : Option Addr) (len cap : Nat) (l : List (List D)) (hA : At w0 (.slice a len cap) (.row l)) (hs : ∀ x ∈ l, ShS x) (hl2 : l.length ≤ 8000000)
    (hf : ∀ x ∈ l, TFn C w0 95 f h x) (hfl : ∀ x ∈ l, ∀ s, (f s x).1.length = 16) (n m : Nat) (st : σ) (hm : n + (l.flatMap h).length ≤ m) (W : World) (hI : C.I m st W) (hW : Below w0.heap.size w0 W) :
    Calls Tryz.prog 94 #[.slice a len cap, .func (.func 95) #[.agg #[.func (.func g) #[] #[c1, c2]]] #[]] W (TLPost C w0.heap.size n W (turnL f st l).1 (turnL f st l).2) := by
  have HI := Lib.hid (C.atLeast hI hm)
  have HA := Lib.hid hA
  cases a with
  | none =>
    have h0 : l = [] := by
      cases hA with
      | nil _ _ _ => rfl
    subst h0
    obtain rfl : len = 0 := hA.len_eq.1.symm
    have hn := eql_nil Tryz.underlying33 none 0 cap
    simp only [Option.isNone_none] at hn
    clear hA hI hf
    go_enter Tryz.func94, Tryz.ntmps94
    go_wp2_with fail
    go_ret
    exact ⟨none, 0, rfl, .nil none 0 (by decide), HI.out, Kept.refl _ _ _⟩
  | some ad =>
  have HS := Lib.hid hs
  have HF := Lib.hid hf
  have HFL := Lib.hid hfl
  have HW := Lib.hid hW
  have hle := hA.len_le
  have HL := Lib.hid hA.len_eq.1
  have hlen2 : len ≤ 8000000 := by rw [← hA.len_eq.1]; exact hl2
  have hn := eql_nil Tryz.underlying33 (some ad) len cap
  simp only [Option.isNone_some] at hn
  have eg := enters_of Tryz.func95 (by kernel_rfl) rfl
  obtain ⟨i0, hi, hz0, hz1, hz2⟩ := info_parts tinfo84
  have HLO := Lib.hid hlow
  clear hA hs hf hfl hW hI hlow hm hl2
  go_enter Tryz.func94, Tryz.ntmps94
  go_wp2_with (first
    | (refine wp_makeRow (o := ⟨some 12, _, _, _, _, _⟩) rfl (.tmp 11) 33 84 rfl i0 _ 16 Tryz.underlying33 hi hz0 hz1 len rfl (by rw [hz2]; omega) (by unfold maxLen; omega) ?_; intro w1 hown1 hgrow1))
  have J0 := Lib.hid (TuJ.start (lo := w0.heap.size) (T := 84) (K := 16) HI.out hown1 hgrow1)
  clear hown1 hgrow1
  go_loopw [5, 15] (fun u i wr => ∃ (k : Nat) (v : Value) (vss : List (List Value)), k ≤ len ∧ v = u ∧ i = .int .i64 k ∧ Hid (TuJ C w0.heap.size (n + ((l.drop k).flatMap h).length) W (turnL f st (l.take k)).2 84 16 v k vss (turnL f st (l.take k)).1 wr)) (fun _ i _ => len - (intOf i).toNat)
  case atStart => exact ⟨0, _, [], Nat.zero_le _, rfl, rfl, J0⟩
  case round =>
    obtain ⟨k, v, vss, hk, rfl, rfl, HJ⟩ := hrel
    by_cases hlt : k < len
    · obtain ⟨b, o, vs, ds, hab, hbl, hx, hv, hc⟩ := HA.out.elem hlt
      obtain rfl : ad = ⟨b, o, none⟩ := by cases hab; rfl
      have hdl : ds.length = 16 := (HS.out _ (List.mem_of_getElem? hx)).ln
      rw [hdl] at hc
      have hvl := Lib.hid (hv.len.trans hdl)
      have hvo := Lib.hid hv.one
      have B0 := Lib.hid (HJ.out.kept.ground HI.out HLO.out HW.out)
      have hbw : b < wr.heap.size := Nat.lt_of_lt_of_le hbl B0.out.size
      have C0 := Lib.hid (show ∀ j v, vs[j]? = some v → wr.cell? ⟨b, o + k * 16 + j, none⟩ = some v from fun j v hv => (B0.out.cell (p := ⟨b, o + k * 16 + j, none⟩) hbl).trans (hc j v hv))
      have C2 := Lib.hid (show ∀ j v, vs[j]? = some v → (wr.alloc (.cells ⟨vs⟩ 84)).cell? ⟨wr.heap.size, 0 + j, none⟩ = some v from fun j v hv => by
        rw [box_cells (heap_new wr (.cells ⟨vs⟩ 84))]
        simpa using hv)
      have N1 := (Below.refl wr.heap.size wr).alloc (Nat.le_refl _) (.cells ⟨vs⟩ 84)
      have J1 := Lib.hid (HJ.out.below N1)
      have DR := Lib.hid (show (l.drop k).flatMap h = h ds ++ (l.drop (k + 1)).flatMap h by rw [dropC hx, List.flatMap_cons])
      have FN := Lib.hid (HF.out ds (List.mem_of_getElem? hx) vs hv (n + ((l.drop (k + 1)).flatMap h).length) _ _ _ (by rw [DR.out, List.length_append]; omega) J1.out.i (B0.out.trans (N1.mono B0.out.size)))
      have TK := Lib.hid (show l.take (k + 1) = l.take k ++ [ds] by rw [List.take_add_one, hx]; rfl)
      have FL := Lib.hid (HFL.out ds (List.mem_of_getElem? hx) (turnL f st (l.take k)).2)
      have HX := Lib.hid hx
      clear hdl hv hc hx hab N1
      go_wp2_with (first
        | ((with_reducible refine wp_loadAgg (o := ⟨some 18, _, _, _, _, _⟩) rfl (.tmp 17) 84 rfl 16 Tryz.isAgg84 Tryz.sizeOf84 b (o + k * 16) ?_ vs hvl.out C0.out ?_); rfl)
        | ((with_reducible refine wp_storeNew (o := ⟨none, .store 84 (.tmp 7) (.tmp 18), _, _, _, _⟩) rfl (.tmp 7) (.tmp 18) 84 rfl 16 Tryz.sizeOf84 _ ?_ ?_ vs ?_ hvl.out hvo.out ?_); rfl; rfl; rfl)
        | ((with_reducible refine wp_loadAgg (o := ⟨some 21, _, _, _, _, _⟩) rfl (.tmp 7) 84 rfl 16 Tryz.isAgg84 Tryz.sizeOf84 wr.heap.size 0 ?_ vs hvl.out C2.out ?_); rfl))
      refine FN.out.mono ?_
      rintro e w3 ⟨vs', rfl, hd, i3, k3⟩
      have J2 := Lib.hid (J1.out.called k3 i3)
      have VL := Lib.hid (hd.len.trans FL.out)
      have VO := Lib.hid hd.one
      have HD := Lib.hid (hd.sub (newN_kept (C.al i3 (.cells ⟨vs'⟩ 84)).1))
      have J3 := Lib.hid (J2.out.below ((Below.refl w3.heap.size w3).alloc (Nat.le_refl _) (.cells ⟨vs'⟩ 84)))
      have HB3 := Lib.hid (show W.heap.size ≤ wr.heap.size ∧ wr.heap.size + 1 ≤ w3.heap.size from ⟨HJ.out.kept.size, by simpa using k3.size⟩)
      have HVN := Lib.hid (fun b (hb : v.ownBlock = some b) => show b < (wr.alloc (.cells ⟨vs⟩ 84)).heap.size by have := (rowBlock HJ.out.row hb).2.1; simp; omega)
      clear hd i3 k3
      go_wp2_with (first
        | ((with_reducible refine wp_buildSlice1 (o := ⟨some 23, _, _, _, _, _⟩) rfl (.tmp 22) 33 84 rfl Tryz.underlying33 16 Tryz.sizeOf84 _ tzero84 (by decide) (by decide) vs' ?_ VL.out ?_); rfl)
        | (at_builtin; refine wpList_append_own_at _ rfl _ _ 33 rfl W.heap.size 84 i0 _ 16 272 Tryz.underlying33 hi hz0 hz1 hz2 rfl (by decide) _ _ _ rfl J3.out.row ⟨w3.heap.size, 0, none⟩ 1 1 vs' rfl (by rw [VL.out]) (fun j u hu => by rw [add_mid2, box_cells (heap_new w3 (.cells ⟨vs'⟩ 84))]; simpa using hu) VO.out (by unfold maxLen; omega) (by omega) (by have := HB3.out; simp; omega) ?_; intro v' w4 hown4 hgrow4 _ hat4))
      have J4 := Lib.hid (J3.out.appended (by have := HW.out.size; omega) VL.out FL.out HD.out (by have := HB3.out; simp; omega) HVN.out hgrow4 hat4 hown4)
      clear hown4 hgrow4 hat4
      go_roundw
      case rel => exact ⟨k + 1, v', vss ++ [vs'], by omega, rfl, by go_num, Lib.hid (by rw [TK.out, turnL_snoc]; exact J4.out)⟩
      case measure => simp [intOf]; omega
    · obtain rfl : k = len := by omega
      obtain ⟨a', cap', hv', hat⟩ := HJ.out.done
      have hil := HJ.out.i
      have hkp := Lib.hid HJ.out.kept
      have HT := Lib.hid (show l.take k = l by rw [← HL.out, List.take_length])
      rw [← HL.out, List.drop_length] at hil
      rw [HL.out, HT.out] at hil
      rw [HT.out] at hv' hat
      have HAT := Lib.hid hat
      have HIL := Lib.hid hil
      clear hat hil HJ
      subst hv'
      go_wp2_with fail
      go_ret
      exact ⟨a', cap', rfl, HAT.out, HIL.out, hkp.out⟩
end Go.Proofs.YtciijpahjjoppaaGreat
end
section
namespace Go.Proofs.YtciijpahjjoppaaGreat
open Go.RowKit Go.Shelf Go.Deep
theorem tinfo80 : (Tryz.prog.info? 80).map (fun i => (i.zero, i.size, i.bytes)) = some (some (.agg #[.slice none 0 0, .slice none 0 0, .string ⟨#[]⟩, .int .i64 0, .slice none 0 0, .slice none 0 0, .slice none 0 0, .slice none 0 0, .slice none 0 0]), 9, 192) := by kernel_rfl
theorem tzero80 (w : World) : (zeroValue 80).run Tryz.prog w = .ok (.agg #[.slice none 0 0, .slice none 0 0, .string ⟨#[]⟩, .int .i64 0, .slice none 0 0, .slice none 0 0, .slice none 0 0, .slice none 0 0, .slice none 0 0]) w := by kernel_rfl
set_option maxRecDepth 100000 in
set_option maxHeartbeats 4000000 in
theorem turnR_any {σ : Type} {g : Nat} {c1 c2 : Value} (C : Clo σ g c1 c2) (w0 : World) (hlow : w0.heap.size ≤ C.low) (f : σ → List D → List D × σ) (h : List D → List ByteArray) (a : Option Addr) (len cap : Nat) (l : List (List D)) (hA : At w0 (.slice a len cap) (.row l)) (hs : ∀ x ∈ l, ShR x) (hl2 : l.length ≤ 8000000)
    (hf : ∀ x ∈ l, TFn C w0 93 f h x) (hfl : ∀ x ∈ l, ∀ s, (f s x).1.length = 9) (n m : Nat) (st : σ) (hm : n + (l.flatMap h).length ≤ m) (W : World) (hI : C.I m st W) (hW : Below w0.heap.size w0 W) :
    Calls Tryz.prog 92 #[.slice a len cap, .func (.func 93) #[.agg #[.func (.func g) #[] #[c1, c2]]] #[]] W (TLPost C w0.heap.size n W (turnL f st l).1 (turnL f st l).2) := by
  have HI := Lib.hid (C.atLeast hI hm)
  have HA := Lib.hid hA
  cases a with
  | none =>
    have h0 : l = [] := by
      cases hA with
      | nil _ _ _ => rfl
    subst h0
    obtain rfl : len = 0 := hA.len_eq.1.symm
    have hn := eql_nil Tryz.underlying32 none 0 cap
    simp only [Option.isNone_none] at hn
    clear hA hI hf
    go_enter Tryz.func92, Tryz.ntmps92
    go_wp2_with fail
    go_ret
    exact ⟨none, 0, rfl, .nil none 0 (by decide), HI.out, Kept.refl _ _ _⟩
  | some ad =>
  have HS := Lib.hid hs
  have HF := Lib.hid hf
  have HFL := Lib.hid hfl
  have HW := Lib.hid hW
  have hle := hA.len_le
  have HL := Lib.hid hA.len_eq.1
  have hlen2 : len ≤ 8000000 := by rw [← hA.len_eq.1]; exact hl2
  have hn := eql_nil Tryz.underlying32 (some ad) len cap
  simp only [Option.isNone_some] at hn
  have eg := enters_of Tryz.func93 (by kernel_rfl) rfl
  obtain ⟨i0, hi, hz0, hz1, hz2⟩ := info_parts tinfo80
  have HLO := Lib.hid hlow
  clear hA hs hf hfl hW hI hlow hm hl2
  go_enter Tryz.func92, Tryz.ntmps92
  go_wp2_with (first
    | (refine wp_makeRow (o := ⟨some 12, _, _, _, _, _⟩) rfl (.tmp 11) 32 80 rfl i0 _ 9 Tryz.underlying32 hi hz0 hz1 len rfl (by rw [hz2]; omega) (by unfold maxLen; omega) ?_; intro w1 hown1 hgrow1))
  have J0 := Lib.hid (TuJ.start (lo := w0.heap.size) (T := 80) (K := 9) HI.out hown1 hgrow1)
  clear hown1 hgrow1
  go_loopw [5, 15] (fun u i wr => ∃ (k : Nat) (v : Value) (vss : List (List Value)), k ≤ len ∧ v = u ∧ i = .int .i64 k ∧ Hid (TuJ C w0.heap.size (n + ((l.drop k).flatMap h).length) W (turnL f st (l.take k)).2 80 9 v k vss (turnL f st (l.take k)).1 wr)) (fun _ i _ => len - (intOf i).toNat)
  case atStart => exact ⟨0, _, [], Nat.zero_le _, rfl, rfl, J0⟩
  case round =>
    obtain ⟨k, v, vss, hk, rfl, rfl, HJ⟩ := hrel
    by_cases hlt : k < len
    · obtain ⟨b, o, vs, ds, hab, hbl, hx, hv, hc⟩ := HA.out.elem hlt
      obtain rfl : ad = ⟨b, o, none⟩ := by cases hab; rfl
      have hdl : ds.length = 9 := (HS.out _ (List.mem_of_getElem? hx)).ln
      rw [hdl] at hc
      have hvl := Lib.hid (hv.len.trans hdl)
      have hvo := Lib.hid hv.one
      have B0 := Lib.hid (HJ.out.kept.ground HI.out HLO.out HW.out)
      have hbw : b < wr.heap.size := Nat.lt_of_lt_of_le hbl B0.out.size
      have C0 := Lib.hid (show ∀ j v, vs[j]? = some v → wr.cell? ⟨b, o + k * 9 + j, none⟩ = some v from fun j v hv => (B0.out.cell (p := ⟨b, o + k * 9 + j, none⟩) hbl).trans (hc j v hv))
      have C2 := Lib.hid (show ∀ j v, vs[j]? = some v → (wr.alloc (.cells ⟨vs⟩ 80)).cell? ⟨wr.heap.size, 0 + j, none⟩ = some v from fun j v hv => by
        rw [box_cells (heap_new wr (.cells ⟨vs⟩ 80))]
        simpa using hv)
      have N1 := (Below.refl wr.heap.size wr).alloc (Nat.le_refl _) (.cells ⟨vs⟩ 80)
      have J1 := Lib.hid (HJ.out.below N1)
      have DR := Lib.hid (show (l.drop k).flatMap h = h ds ++ (l.drop (k + 1)).flatMap h by rw [dropC hx, List.flatMap_cons])
      have FN := Lib.hid (HF.out ds (List.mem_of_getElem? hx) vs hv (n + ((l.drop (k + 1)).flatMap h).length) _ _ _ (by rw [DR.out, List.length_append]; omega) J1.out.i (B0.out.trans (N1.mono B0.out.size)))
      have TK := Lib.hid (show l.take (k + 1) = l.take k ++ [ds] by rw [List.take_add_one, hx]; rfl)
      have FL := Lib.hid (HFL.out ds (List.mem_of_getElem? hx) (turnL f st (l.take k)).2)
      have HX := Lib.hid hx
      clear hdl hv hc hx hab N1
      go_wp2_with (first
        | ((with_reducible refine wp_loadAgg (o := ⟨some 18, _, _, _, _, _⟩) rfl (.tmp 17) 80 rfl 9 Tryz.isAgg80 Tryz.sizeOf80 b (o + k * 9) ?_ vs hvl.out C0.out ?_); rfl)
        | ((with_reducible refine wp_storeNew (o := ⟨none, .store 80 (.tmp 7) (.tmp 18), _, _, _, _⟩) rfl (.tmp 7) (.tmp 18) 80 rfl 9 Tryz.sizeOf80 _ ?_ ?_ vs ?_ hvl.out hvo.out ?_); rfl; rfl; rfl)
        | ((with_reducible refine wp_loadAgg (o := ⟨some 21, _, _, _, _, _⟩) rfl (.tmp 7) 80 rfl 9 Tryz.isAgg80 Tryz.sizeOf80 wr.heap.size 0 ?_ vs hvl.out C2.out ?_); rfl))
      refine FN.out.mono ?_
      rintro e w3 ⟨vs', rfl, hd, i3, k3⟩
      have J2 := Lib.hid (J1.out.called k3 i3)
      have VL := Lib.hid (hd.len.trans FL.out)
      have VO := Lib.hid hd.one
      have HD := Lib.hid (hd.sub (newN_kept (C.al i3 (.cells ⟨vs'⟩ 80)).1))
      have J3 := Lib.hid (J2.out.below ((Below.refl w3.heap.size w3).alloc (Nat.le_refl _) (.cells ⟨vs'⟩ 80)))
      have HB3 := Lib.hid (show W.heap.size ≤ wr.heap.size ∧ wr.heap.size + 1 ≤ w3.heap.size from ⟨HJ.out.kept.size, by simpa using k3.size⟩)
      have HVN := Lib.hid (fun b (hb : v.ownBlock = some b) => show b < (wr.alloc (.cells ⟨vs⟩ 80)).heap.size by have := (rowBlock HJ.out.row hb).2.1; simp; omega)
      clear hd i3 k3
      go_wp2_with (first
        | ((with_reducible refine wp_buildSlice1 (o := ⟨some 23, _, _, _, _, _⟩) rfl (.tmp 22) 32 80 rfl Tryz.underlying32 9 Tryz.sizeOf80 _ tzero80 (by decide) (by decide) vs' ?_ VL.out ?_); rfl)
        | (at_builtin; refine wpList_append_own_at _ rfl _ _ 32 rfl W.heap.size 80 i0 _ 9 192 Tryz.underlying32 hi hz0 hz1 hz2 rfl (by decide) _ _ _ rfl J3.out.row ⟨w3.heap.size, 0, none⟩ 1 1 vs' rfl (by rw [VL.out]) (fun j u hu => by rw [add_mid2, box_cells (heap_new w3 (.cells ⟨vs'⟩ 80))]; simpa using hu) VO.out (by unfold maxLen; omega) (by omega) (by have := HB3.out; simp; omega) ?_; intro v' w4 hown4 hgrow4 _ hat4))
      have J4 := Lib.hid (J3.out.appended (by have := HW.out.size; omega) VL.out FL.out HD.out (by have := HB3.out; simp; omega) HVN.out hgrow4 hat4 hown4)
      clear hown4 hgrow4 hat4
      go_roundw
      case rel => exact ⟨k + 1, v', vss ++ [vs'], by omega, rfl, by go_num, Lib.hid (by rw [TK.out, turnL_snoc]; exact J4.out)⟩
      case measure => simp [intOf]; omega
    · obtain rfl : k = len := by omega
      obtain ⟨a', cap', hv', hat⟩ := HJ.out.done
      have hil := HJ.out.i
      have hkp := Lib.hid HJ.out.kept
      have HT := Lib.hid (show l.take k = l by rw [← HL.out, List.take_length])
      rw [← HL.out, List.drop_length] at hil
      rw [HL.out, HT.out] at hil
      rw [HT.out] at hv' hat
      have HAT := Lib.hid hat
      have HIL := Lib.hid hil
      clear hat hil HJ
      subst hv'
      go_wp2_with fail
      go_ret
      exact ⟨a', cap', rfl, HAT.out, HIL.out, hkp.out⟩
end Go.Proofs.YtciijpahjjoppaaGreat
end
section
namespace Go.Proofs.YtciijpahjjoppaaGreat
open Go.RowKit Go.Shelf Go.Deep

theorem open5 {w : World} {vs : List Value} {a b : Int} {c d : ByteArray} {l : List (List D)} (h : AllAt w vs [.int a, .int b, .str c, .str d, .row l]) : ∃ p o, vs = [.int .i64 a, .int .i64 b, .string c, .string d, .slice p l.length o] ∧ AllAt w [.int .i64 a, .int .i64 b, .string c, .string d, .slice p l.length o] [.int a, .int b, .str c, .str d, .row l] := by
  have h0 := h
  match vs, h with
  | [v0, v1, v2, v3, v4], ⟨h0', h1, h2, h3, h4, _⟩ =>
    obtain ⟨rfl, _⟩ := h0'.int_inv
    obtain ⟨rfl, _⟩ := h1.int_inv
    obtain ⟨rfl, _⟩ := h2.str_inv
    obtain ⟨rfl, _⟩ := h3.str_inv
    obtain ⟨p, o, rfl, _⟩ := h4.row_inv
    exact ⟨p, o, rfl, h0⟩
section
variable {σ : Type} {g : Nat} {c1 c2 : Value} (C : Clo σ g c1 c2)
theorem tF_len (s : σ) {x : List D} (hx : ShF x) : (tF C s x).1.length = 4 := by cases hx; rfl
theorem tV_len (s : σ) {x : List D} (hx : ShV x) : (tV C s x).1.length = 6 := by cases hx; rfl
theorem tP_len (s : σ) {x : List D} (hx : ShP x) : (tP C s x).1.length = 5 := by cases hx; rfl
theorem tC_len (s : σ) {x : List D} (hx : ShC x) : (tC C s x).1.length = 5 := by cases hx; rfl
theorem tE_len (n : Nat) (s : σ) {x : List D} (hx : ShE x) : (tE C n s x).1.length = 5 := by cases n <;> cases hx <;> rfl
theorem tS_len (n : Nat) (s : σ) {x : List D} (hx : ShS x) : (tS C n s x).1.length = 16 := by cases n <;> cases hx <;> rfl
theorem tR_len (n : Nat) (s : σ) {x : List D} (hx : ShR x) : (tR C n s x).1.length = 9 := by cases n <;> cases hx <;> rfl
end
end Go.Proofs.YtciijpahjjoppaaGreat
end
section
namespace Go.Proofs.YtciijpahjjoppaaGreat
open Go.RowKit Go.Shelf Go.Deep
set_option maxRecDepth 100000 in
set_option maxHeartbeats 16000000 in
theorem tmE_any {σ : Type} {g : Nat} {c1 c2 : Value} (C : Clo σ g c1 c2) (hg : g = 50 ∨ g = 59) (hout : ∀ s x, x.size ≤ lim → (C.out s x).size ≤ lim) (w0 : World) (hlow : w0.heap.size ≤ C.low) (N : Nat) (x : List D) (hx : ShE x) (hb : mRow x ≤ 8000000) (hE : ∀ l, D.row l ∈ x → (∀ y ∈ l, ShE y) → ∀ y ∈ l, TFn C w0 130 (tE C N) (nE N) y) : TFn C w0 130 (tE C (N + 1)) (nE (N + 1)) x := by
  intro vs hv n m st W hm hI hW
  obtain ⟨op, kk, nm, fd, kl, kla, klc, rfl, rfl, _, _, i_nm, i_fd, a_kl, t_kl⟩ := hv.openE hx
  have F_kl := Lib.hid (hE kl (by simp) t_kl)
  simp only [mRow, mD] at hb
  have l_kl : kl.length ≤ 8000000 := by have := mRows_len kl (fun y hy e => by rw [e] at hy; cases t_kl _ hy); omega
  have hm2 : n + ((parts nm).length + ((parts fd).length + ((kl.flatMap (nE N)).length + 0))) ≤ m := by simp only [nE, List.length_append] at hm; omega
  have J0 := Lib.hid (BxD.start C hlow (T := 24) (cs := #[.int .i64 op, .int .i64 kk, .string nm, .string fd, .slice kla kl.length klc]) (ds := [.int op, .int kk, .str nm, .str fd, .row kl]) (zs := #[.int .i64 0, .int .i64 0, .string ⟨#[]⟩, .string ⟨#[]⟩, .slice none 0 0]) rfl (C.atLeast hI hm2) hW hv)
  have HG := Lib.hid hg
  have HLW := Lib.hid hW.size
  have HLOW := Lib.hid hlow
  have HOUT := Lib.hid hout
  have HGR := Lib.hid (fun (V : World) (k : Kept C.O C.hi W V) => k.ground hI hlow hW)
  have A_kl := Lib.hid a_kl
  have T_kl := Lib.hid t_kl
  clear hI hg hW hlow hout hm hm2 hv hx a_kl t_kl hE
  go_enter Tryz.func130, Tryz.ntmps130
  go_wp2_with fail
  refine (name_any C HG.out (n + ((parts fd).length + ((kl.flatMap (nE N)).length + 0))) st nm _ (C.atLeast J0.out.j.i (by omega)) (by unfold lim; omega)).mono ?_
  rintro e W1 ⟨rfl, i1, k1⟩
  have Q1 := Lib.hid (J0.out.called k1 i1)
  have M1 := Lib.hid (nm_le C HOUT.out st nm (by omega))
  clear i1 k1
  generalize hq1 : C.nm st nm = q1 at *
  have HQ1 := Lib.hid hq1
  clear hq1
  have cA1 := box_cells Q1.out.j.bt
  have cB1 : ∀ i, W1.cell? ⟨W.heap.size + 1, i, none⟩ = (#[.int .i64 op, .int .i64 kk, .string nm, .string fd, .slice kla kl.length klc] : Array Value)[i]? := box_cells Q1.out.j.bx
  have fB1 := frozen_box Q1.out.j.bx
  go_wp2_with fail
  have R1 := Lib.hid (show BxD C w0.heap.size (n + ((parts fd).length + ((kl.flatMap (nE N)).length + 0))) W q1.2 24 [.int .i64 op, .int .i64 kk, .string q1.1, .string fd, .slice kla kl.length klc] [.int op, .int kk, .str q1.1, .str fd, .row kl] (W1.setCell ⟨W.heap.size + 1, 2, none⟩ (.string q1.1)) from Q1.out.set HLW.out 2 (.string q1.1) (.str q1.1) (.str _ M1.out))
  refine (name_any C HG.out (n + ((kl.flatMap (nE N)).length + 0)) q1.2 fd _ (C.atLeast R1.out.j.i (by omega)) (by unfold lim; omega)).mono ?_
  rintro e W2 ⟨rfl, i2, k2⟩
  have Q2 := Lib.hid (R1.out.called k2 i2)
  have M2 := Lib.hid (nm_le C HOUT.out q1.2 fd (by omega))
  clear i2 k2 cA1 cB1 fB1
  generalize hq2 : C.nm q1.2 fd = q2 at *
  have HQ2 := Lib.hid hq2
  clear hq2
  have cA2 := box_cells Q2.out.j.bt
  have cB2 : ∀ i, W2.cell? ⟨W.heap.size + 1, i, none⟩ = (#[.int .i64 op, .int .i64 kk, .string q1.1, .string fd, .slice kla kl.length klc] : Array Value)[i]? := box_cells Q2.out.j.bx
  have fB2 := frozen_box Q2.out.j.bx
  go_wp2_with fail
  have R2 := Lib.hid (show BxD C w0.heap.size (n + ((kl.flatMap (nE N)).length + 0)) W q2.2 24 [.int .i64 op, .int .i64 kk, .string q1.1, .string q2.1, .slice kla kl.length klc] [.int op, .int kk, .str q1.1, .str q2.1, .row kl] (W2.setCell ⟨W.heap.size + 1, 3, none⟩ (.string q2.1)) from Q2.out.set HLW.out 3 (.string q2.1) (.str q2.1) (.str _ M2.out))
  refine (turnE_any C w0 HLOW.out (tE C N) (nE N) kla kl.length klc kl A_kl.out T_kl.out l_kl F_kl.out (fun y hy s => tE_len C N s (T_kl.out y hy)) (n + 0) _ q2.2 (by omega) _ R2.out.j.i (HGR.out _ R2.out.j.kept)).mono ?_
  rintro e W3 ⟨p3, o3, rfl, d3, i3, k3⟩
  have Q3 := Lib.hid (R2.out.called k3 i3)
  have M3 := Lib.hid (d3.sub (newN_less R2.out.j.sz))
  clear i3 k3 d3 cA2 cB2 fB2
  generalize hq3 : turnL (tE C N) q2.2 kl = q3 at *
  have HQ3 := Lib.hid hq3
  clear hq3
  have cA3 := box_cells Q3.out.j.bt
  have cB3 : ∀ i, W3.cell? ⟨W.heap.size + 1, i, none⟩ = (#[.int .i64 op, .int .i64 kk, .string q1.1, .string q2.1, .slice kla kl.length klc] : Array Value)[i]? := box_cells Q3.out.j.bx
  have fB3 := frozen_box Q3.out.j.bx
  have R3 := Lib.hid (show BxD C w0.heap.size (n + 0) W q3.2 24 [.int .i64 op, .int .i64 kk, .string q1.1, .string q2.1, .slice p3 q3.1.length o3] [.int op, .int kk, .str q1.1, .str q2.1, .row q3.1] (W3.setCell ⟨W.heap.size + 1, 4, none⟩ (.slice p3 q3.1.length o3)) from Q3.out.set HLW.out 4 (.slice p3 q3.1.length o3) (.row q3.1) M3.out)
  have CL := Lib.hid (show ∀ (i : Nat) (v : Value), ([.int .i64 op, .int .i64 kk, .string q1.1, .string q2.1, .slice p3 q3.1.length o3] : List Value)[i]? = some v → (W3.setCell ⟨W.heap.size + 1, 4, none⟩ (.slice p3 q3.1.length o3)).cell? ⟨W.heap.size + 1, 0 + i, none⟩ = some v from fun i v hv => by rw [box_cells R3.out.j.bx, Nat.zero_add]; simpa using hv)
  obtain ⟨zs, z1, z2⟩ := R3.out.j.br
  have Z1 := Lib.hid (show zs.length = 5 from z1)
  have LN := Lib.hid (show ([.int .i64 op, .int .i64 kk, .string q1.1, .string q2.1, .slice p3 q3.1.length o3] : List Value).length = 5 from rfl)
  have ON := Lib.hid (show ∀ v ∈ ([.int .i64 op, .int .i64 kk, .string q1.1, .string q2.1, .slice p3 q3.1.length o3] : List Value), v.oneCell' = true from AllAt.one R3.out.d)
  have Z2 := Lib.hid z2
  clear z1 z2
  go_wp2_with (first
    | ((with_reducible refine wp_loadAgg (o := ⟨some 21, _, _, _, _, _⟩) rfl (.tmp 3) 24 rfl 5 Tryz.isAgg24 Tryz.sizeOf24 (W.heap.size + 1) 0 ?_ [.int .i64 op, .int .i64 kk, .string q1.1, .string q2.1, .slice p3 q3.1.length o3] LN.out CL.out ?_); rfl)
    | ((with_reducible refine wp_storeOld (o := ⟨none, .store 24 (.tmp 4) (.tmp 21), _, _, _, _⟩) rfl (.tmp 4) (.tmp 21) 24 rfl 5 Tryz.sizeOf24 (W.heap.size + 2) zs Z1.out 24 Z2.out ?_ [.int .i64 op, .int .i64 kk, .string q1.1, .string q2.1, .slice p3 q3.1.length o3] ?_ LN.out ON.out ?_); rfl; rfl))
  refine bodyPost_ret (v := .agg ⟨[.int .i64 op, .int .i64 kk, .string q1.1, .string q2.1, .slice p3 q3.1.length o3]⟩) ?_ rfl ?_
  · exact results_cell (i := 4) (b := W.heap.size + 2) Tryz.results130 Tryz.isAgg24 Tryz.sizeOf24 rfl rfl R3.out.j.last.1
  · have HO : tE C (N + 1) st [.int op, .int kk, .str nm, .str fd, .row kl] = ([.int op, .int kk, .str q1.1, .str q2.1, .row q3.1], q3.2) := by
      show (([.int op, .int kk, .str (C.nm st nm).1, .str (C.nm (C.nm st nm).2 fd).1, .row (turnL (tE C N) (C.nm (C.nm st nm).2 fd).2 kl).1] : List D), (turnL (tE C N) (C.nm (C.nm st nm).2 fd).2 kl).2) = _
      rw [HQ1.out, HQ2.out, HQ3.out]
    rw [HO]
    exact ⟨[.int .i64 op, .int .i64 kk, .string q1.1, .string q2.1, .slice p3 q3.1.length o3], rfl, R3.out.last HLW.out, R3.out.j.last.2.1, R3.out.j.last.2.2⟩
end Go.Proofs.YtciijpahjjoppaaGreat
end
section
namespace Go.Proofs.YtciijpahjjoppaaGreat
open Go.RowKit Go.Shelf Go.Deep
set_option maxRecDepth 100000 in
set_option maxHeartbeats 16000000 in
theorem tmF_any {σ : Type} {g : Nat} {c1 c2 : Value} (C : Clo σ g c1 c2) (hg : g = 50 ∨ g = 59) (hout : ∀ s x, x.size ≤ lim → (C.out s x).size ≤ lim) (w0 : World) (hlow : w0.heap.size ≤ C.low) (x : List D) (hx : ShF x) (hb : mRow x ≤ 8000000)  : TFn C w0 127 (tF C) (nF) x := by
  intro vs hv n m st W hm hI hW
  obtain ⟨m0, m1, nm, kd, m0a, m0c, m1a, m1c, rfl, rfl, a_m0, a_m1, i_nm, _, t_m0, t_m1⟩ := hv.openF hx
  simp only [mRow, mD] at hb
  have l_m0 : m0.length ≤ 8000000 := by have := mRows_len m0 (fun y hy e => by rw [e] at hy; cases t_m0 _ hy); omega
  have l_m1 : m1.length ≤ 8000000 := by have := mRows_len m1 (fun y hy e => by rw [e] at hy; cases t_m1 _ hy); omega
  have hm2 : n + ((parts nm).length + 0) ≤ m := by simp only [nF] at hm; omega
  have J0 := Lib.hid (BxD.start C hlow (T := 65) (cs := #[.slice m0a m0.length m0c, .slice m1a m1.length m1c, .string nm, .int .i64 kd]) (ds := [.row m0, .row m1, .str nm, .int kd]) (zs := #[.slice none 0 0, .slice none 0 0, .string ⟨#[]⟩, .int .i64 0]) rfl (C.atLeast hI hm2) hW hv)
  have HG := Lib.hid hg
  have HLW := Lib.hid hW.size
  have HLOW := Lib.hid hlow
  have HOUT := Lib.hid hout
  have HGR := Lib.hid (fun (V : World) (k : Kept C.O C.hi W V) => k.ground hI hlow hW)
  have A_m0 := Lib.hid a_m0
  have T_m0 := Lib.hid t_m0
  have A_m1 := Lib.hid a_m1
  have T_m1 := Lib.hid t_m1
  clear hI hg hW hlow hout hm hm2 hv hx a_m0 a_m1 t_m0 t_m1 
  go_enter Tryz.func127, Tryz.ntmps127
  go_wp2_with fail
  refine (tmarks_any C w0 HLOW.out m0 m1 m0a m0c m1a m1c A_m0.out A_m1.out T_m0.out T_m1.out l_m0 l_m1 (n + ((parts nm).length + 0)) st _ J0.out.j.i (HGR.out _ J0.out.j.kept)).mono ?_
  rintro e W1 ⟨p1, o1, p1b, o1b, rfl, d1, d1b, i1, k1⟩
  have Q1 := Lib.hid (J0.out.called k1 i1)
  have M1 := Lib.hid (show AllAt (NewN C w0.heap.size (W.heap.size + 3) W1) [.slice p1 m0.length o1, .slice p1b m1.length o1b] [.row m0, .row m1] from ⟨d1.sub (newN_less J0.out.j.sz), d1b.sub (newN_less J0.out.j.sz), trivial⟩)
  clear i1 k1 d1 d1b
  have cA1 := box_cells Q1.out.j.bt
  have cB1 : ∀ i, W1.cell? ⟨W.heap.size + 1, i, none⟩ = (#[.slice m0a m0.length m0c, .slice m1a m1.length m1c, .string nm, .int .i64 kd] : Array Value)[i]? := box_cells Q1.out.j.bx
  have fB1 := frozen_box Q1.out.j.bx
  have ON1 := Lib.hid (show ∀ v ∈ ([.slice p1 m0.length o1, .slice p1b m1.length o1b] : List Value), v.oneCell' = true from AllAt.one M1.out)
  go_wp2_with (first | ((with_reducible refine wp_storeOff (o := ⟨none, .store 59 (.tmp 9) (.tmp 8), _, _, _, _⟩) rfl (.tmp 9) (.tmp 8) 59 rfl 2 Tryz.sizeOf59 (W.heap.size + 1) 0 [.slice m0a m0.length m0c, .slice m1a m1.length m1c, .string nm, .int .i64 kd] (by decide) 65 Q1.out.j.bx ?_ [.slice p1 m0.length o1, .slice p1b m1.length o1b] ?_ rfl ON1.out ?_); rfl; rfl))
  have R1 := Lib.hid (show BxD C w0.heap.size (n + ((parts nm).length + 0)) W st 65 [.slice p1 m0.length o1, .slice p1b m1.length o1b, .string nm, .int .i64 kd] [.row m0, .row m1, .str nm, .int kd] (W1.setCells (W.heap.size + 1) 0 [.slice p1 m0.length o1, .slice p1b m1.length o1b]) from BxD.sets HLW.out 0 Q1.out M1.out)
  refine (name_any C HG.out (n + 0) st nm _ (C.atLeast R1.out.j.i (by omega)) (by unfold lim; omega)).mono ?_
  rintro e W2 ⟨rfl, i2, k2⟩
  have Q2 := Lib.hid (R1.out.called k2 i2)
  have M2 := Lib.hid (nm_le C HOUT.out st nm (by omega))
  clear i2 k2 cA1 cB1 fB1
  generalize hq1 : C.nm st nm = q1 at *
  have HQ1 := Lib.hid hq1
  clear hq1
  have cA2 := box_cells Q2.out.j.bt
  have cB2 : ∀ i, W2.cell? ⟨W.heap.size + 1, i, none⟩ = (#[.slice p1 m0.length o1, .slice p1b m1.length o1b, .string nm, .int .i64 kd] : Array Value)[i]? := box_cells Q2.out.j.bx
  have fB2 := frozen_box Q2.out.j.bx
  have R2 := Lib.hid (show BxD C w0.heap.size (n + 0) W q1.2 65 [.slice p1 m0.length o1, .slice p1b m1.length o1b, .string q1.1, .int .i64 kd] [.row m0, .row m1, .str q1.1, .int kd] (W2.setCell ⟨W.heap.size + 1, 2, none⟩ (.string q1.1)) from Q2.out.set HLW.out 2 (.string q1.1) (.str q1.1) (.str _ M2.out))
  have CL := Lib.hid (show ∀ (i : Nat) (v : Value), ([.slice p1 m0.length o1, .slice p1b m1.length o1b, .string q1.1, .int .i64 kd] : List Value)[i]? = some v → (W2.setCell ⟨W.heap.size + 1, 2, none⟩ (.string q1.1)).cell? ⟨W.heap.size + 1, 0 + i, none⟩ = some v from fun i v hv => by rw [box_cells R2.out.j.bx, Nat.zero_add]; simpa using hv)
  obtain ⟨zs, z1, z2⟩ := R2.out.j.br
  have Z1 := Lib.hid (show zs.length = 4 from z1)
  have LN := Lib.hid (show ([.slice p1 m0.length o1, .slice p1b m1.length o1b, .string q1.1, .int .i64 kd] : List Value).length = 4 from rfl)
  have ON := Lib.hid (show ∀ v ∈ ([.slice p1 m0.length o1, .slice p1b m1.length o1b, .string q1.1, .int .i64 kd] : List Value), v.oneCell' = true from AllAt.one R2.out.d)
  have Z2 := Lib.hid z2
  clear z1 z2
  go_wp2_with (first
    | ((with_reducible refine wp_loadAgg (o := ⟨some 15, _, _, _, _, _⟩) rfl (.tmp 3) 65 rfl 4 Tryz.isAgg65 Tryz.sizeOf65 (W.heap.size + 1) 0 ?_ [.slice p1 m0.length o1, .slice p1b m1.length o1b, .string q1.1, .int .i64 kd] LN.out CL.out ?_); rfl)
    | ((with_reducible refine wp_storeOld (o := ⟨none, .store 65 (.tmp 4) (.tmp 15), _, _, _, _⟩) rfl (.tmp 4) (.tmp 15) 65 rfl 4 Tryz.sizeOf65 (W.heap.size + 2) zs Z1.out 65 Z2.out ?_ [.slice p1 m0.length o1, .slice p1b m1.length o1b, .string q1.1, .int .i64 kd] ?_ LN.out ON.out ?_); rfl; rfl))
  refine bodyPost_ret (v := .agg ⟨[.slice p1 m0.length o1, .slice p1b m1.length o1b, .string q1.1, .int .i64 kd]⟩) ?_ rfl ?_
  · exact results_cell (i := 4) (b := W.heap.size + 2) Tryz.results127 Tryz.isAgg65 Tryz.sizeOf65 rfl rfl R2.out.j.last.1
  · have HO : tF C st [.row m0, .row m1, .str nm, .int kd] = ([.row m0, .row m1, .str q1.1, .int kd], q1.2) := by
      show (([.row m0, .row m1, .str (C.nm st nm).1, .int kd] : List D), (C.nm st nm).2) = _
      rw [HQ1.out]
    rw [HO]
    exact ⟨[.slice p1 m0.length o1, .slice p1b m1.length o1b, .string q1.1, .int .i64 kd], rfl, R2.out.last HLW.out, R2.out.j.last.2.1, R2.out.j.last.2.2⟩
end Go.Proofs.YtciijpahjjoppaaGreat
end
section
namespace Go.Proofs.YtciijpahjjoppaaGreat
open Go.RowKit Go.Shelf Go.Deep
set_option maxRecDepth 100000 in
set_option maxHeartbeats 16000000 in
theorem tmV_any {σ : Type} {g : Nat} {c1 c2 : Value} (C : Clo σ g c1 c2) (hg : g = 50 ∨ g = 59) (hout : ∀ s x, x.size ≤ lim → (C.out s x).size ≤ lim) (w0 : World) (hlow : w0.heap.size ≤ C.low) (x : List D) (hx : ShV x) (hb : mRow x ≤ 8000000)  : TFn C w0 91 (tV C) (nV) x := by
  intro vs hv n m st W hm hI hW
  obtain ⟨m0, m1, nm, kd, sz, tn, m0a, m0c, m1a, m1c, rfl, rfl, a_m0, a_m1, i_nm, _, _, i_tn, t_m0, t_m1⟩ := hv.openV hx
  simp only [mRow, mD] at hb
  have l_m0 : m0.length ≤ 8000000 := by have := mRows_len m0 (fun y hy e => by rw [e] at hy; cases t_m0 _ hy); omega
  have l_m1 : m1.length ≤ 8000000 := by have := mRows_len m1 (fun y hy e => by rw [e] at hy; cases t_m1 _ hy); omega
  have hm2 : n + ((parts nm).length + ((parts tn).length + 0)) ≤ m := by simp only [nV, List.length_append] at hm; omega
  have J0 := Lib.hid (BxD.start C hlow (T := 75) (cs := #[.slice m0a m0.length m0c, .slice m1a m1.length m1c, .string nm, .int .i64 kd, .int .i64 sz, .string tn]) (ds := [.row m0, .row m1, .str nm, .int kd, .int sz, .str tn]) (zs := #[.slice none 0 0, .slice none 0 0, .string ⟨#[]⟩, .int .i64 0, .int .i64 0, .string ⟨#[]⟩]) rfl (C.atLeast hI hm2) hW hv)
  have HG := Lib.hid hg
  have HLW := Lib.hid hW.size
  have HLOW := Lib.hid hlow
  have HOUT := Lib.hid hout
  have HGR := Lib.hid (fun (V : World) (k : Kept C.O C.hi W V) => k.ground hI hlow hW)
  have A_m0 := Lib.hid a_m0
  have T_m0 := Lib.hid t_m0
  have A_m1 := Lib.hid a_m1
  have T_m1 := Lib.hid t_m1
  clear hI hg hW hlow hout hm hm2 hv hx a_m0 a_m1 t_m0 t_m1 
  go_enter Tryz.func91, Tryz.ntmps91
  go_wp2_with fail
  refine (tmarks_any C w0 HLOW.out m0 m1 m0a m0c m1a m1c A_m0.out A_m1.out T_m0.out T_m1.out l_m0 l_m1 (n + ((parts nm).length + ((parts tn).length + 0))) st _ J0.out.j.i (HGR.out _ J0.out.j.kept)).mono ?_
  rintro e W1 ⟨p1, o1, p1b, o1b, rfl, d1, d1b, i1, k1⟩
  have Q1 := Lib.hid (J0.out.called k1 i1)
  have M1 := Lib.hid (show AllAt (NewN C w0.heap.size (W.heap.size + 3) W1) [.slice p1 m0.length o1, .slice p1b m1.length o1b] [.row m0, .row m1] from ⟨d1.sub (newN_less J0.out.j.sz), d1b.sub (newN_less J0.out.j.sz), trivial⟩)
  clear i1 k1 d1 d1b
  have cA1 := box_cells Q1.out.j.bt
  have cB1 : ∀ i, W1.cell? ⟨W.heap.size + 1, i, none⟩ = (#[.slice m0a m0.length m0c, .slice m1a m1.length m1c, .string nm, .int .i64 kd, .int .i64 sz, .string tn] : Array Value)[i]? := box_cells Q1.out.j.bx
  have fB1 := frozen_box Q1.out.j.bx
  have ON1 := Lib.hid (show ∀ v ∈ ([.slice p1 m0.length o1, .slice p1b m1.length o1b] : List Value), v.oneCell' = true from AllAt.one M1.out)
  go_wp2_with (first | ((with_reducible refine wp_storeOff (o := ⟨none, .store 59 (.tmp 9) (.tmp 8), _, _, _, _⟩) rfl (.tmp 9) (.tmp 8) 59 rfl 2 Tryz.sizeOf59 (W.heap.size + 1) 0 [.slice m0a m0.length m0c, .slice m1a m1.length m1c, .string nm, .int .i64 kd, .int .i64 sz, .string tn] (by decide) 75 Q1.out.j.bx ?_ [.slice p1 m0.length o1, .slice p1b m1.length o1b] ?_ rfl ON1.out ?_); rfl; rfl))
  have R1 := Lib.hid (show BxD C w0.heap.size (n + ((parts nm).length + ((parts tn).length + 0))) W st 75 [.slice p1 m0.length o1, .slice p1b m1.length o1b, .string nm, .int .i64 kd, .int .i64 sz, .string tn] [.row m0, .row m1, .str nm, .int kd, .int sz, .str tn] (W1.setCells (W.heap.size + 1) 0 [.slice p1 m0.length o1, .slice p1b m1.length o1b]) from BxD.sets HLW.out 0 Q1.out M1.out)
  refine (name_any C HG.out (n + ((parts tn).length + 0)) st nm _ (C.atLeast R1.out.j.i (by omega)) (by unfold lim; omega)).mono ?_
  rintro e W2 ⟨rfl, i2, k2⟩
  have Q2 := Lib.hid (R1.out.called k2 i2)
  have M2 := Lib.hid (nm_le C HOUT.out st nm (by omega))
  clear i2 k2 cA1 cB1 fB1
  generalize hq1 : C.nm st nm = q1 at *
  have HQ1 := Lib.hid hq1
  clear hq1
  have cA2 := box_cells Q2.out.j.bt
  have cB2 : ∀ i, W2.cell? ⟨W.heap.size + 1, i, none⟩ = (#[.slice p1 m0.length o1, .slice p1b m1.length o1b, .string nm, .int .i64 kd, .int .i64 sz, .string tn] : Array Value)[i]? := box_cells Q2.out.j.bx
  have fB2 := frozen_box Q2.out.j.bx
  go_wp2_with fail
  have R2 := Lib.hid (show BxD C w0.heap.size (n + ((parts tn).length + 0)) W q1.2 75 [.slice p1 m0.length o1, .slice p1b m1.length o1b, .string q1.1, .int .i64 kd, .int .i64 sz, .string tn] [.row m0, .row m1, .str q1.1, .int kd, .int sz, .str tn] (W2.setCell ⟨W.heap.size + 1, 2, none⟩ (.string q1.1)) from Q2.out.set HLW.out 2 (.string q1.1) (.str q1.1) (.str _ M2.out))
  refine (name_any C HG.out (n + 0) q1.2 tn _ (C.atLeast R2.out.j.i (by omega)) (by unfold lim; omega)).mono ?_
  rintro e W3 ⟨rfl, i3, k3⟩
  have Q3 := Lib.hid (R2.out.called k3 i3)
  have M3 := Lib.hid (nm_le C HOUT.out q1.2 tn (by omega))
  clear i3 k3 cA2 cB2 fB2
  generalize hq2 : C.nm q1.2 tn = q2 at *
  have HQ2 := Lib.hid hq2
  clear hq2
  have cA3 := box_cells Q3.out.j.bt
  have cB3 : ∀ i, W3.cell? ⟨W.heap.size + 1, i, none⟩ = (#[.slice p1 m0.length o1, .slice p1b m1.length o1b, .string q1.1, .int .i64 kd, .int .i64 sz, .string tn] : Array Value)[i]? := box_cells Q3.out.j.bx
  have fB3 := frozen_box Q3.out.j.bx
  have R3 := Lib.hid (show BxD C w0.heap.size (n + 0) W q2.2 75 [.slice p1 m0.length o1, .slice p1b m1.length o1b, .string q1.1, .int .i64 kd, .int .i64 sz, .string q2.1] [.row m0, .row m1, .str q1.1, .int kd, .int sz, .str q2.1] (W3.setCell ⟨W.heap.size + 1, 5, none⟩ (.string q2.1)) from Q3.out.set HLW.out 5 (.string q2.1) (.str q2.1) (.str _ M3.out))
  have CL := Lib.hid (show ∀ (i : Nat) (v : Value), ([.slice p1 m0.length o1, .slice p1b m1.length o1b, .string q1.1, .int .i64 kd, .int .i64 sz, .string q2.1] : List Value)[i]? = some v → (W3.setCell ⟨W.heap.size + 1, 5, none⟩ (.string q2.1)).cell? ⟨W.heap.size + 1, 0 + i, none⟩ = some v from fun i v hv => by rw [box_cells R3.out.j.bx, Nat.zero_add]; simpa using hv)
  obtain ⟨zs, z1, z2⟩ := R3.out.j.br
  have Z1 := Lib.hid (show zs.length = 6 from z1)
  have LN := Lib.hid (show ([.slice p1 m0.length o1, .slice p1b m1.length o1b, .string q1.1, .int .i64 kd, .int .i64 sz, .string q2.1] : List Value).length = 6 from rfl)
  have ON := Lib.hid (show ∀ v ∈ ([.slice p1 m0.length o1, .slice p1b m1.length o1b, .string q1.1, .int .i64 kd, .int .i64 sz, .string q2.1] : List Value), v.oneCell' = true from AllAt.one R3.out.d)
  have Z2 := Lib.hid z2
  clear z1 z2
  go_wp2_with (first
    | ((with_reducible refine wp_loadAgg (o := ⟨some 22, _, _, _, _, _⟩) rfl (.tmp 3) 75 rfl 6 Tryz.isAgg75 Tryz.sizeOf75 (W.heap.size + 1) 0 ?_ [.slice p1 m0.length o1, .slice p1b m1.length o1b, .string q1.1, .int .i64 kd, .int .i64 sz, .string q2.1] LN.out CL.out ?_); rfl)
    | ((with_reducible refine wp_storeOld (o := ⟨none, .store 75 (.tmp 4) (.tmp 22), _, _, _, _⟩) rfl (.tmp 4) (.tmp 22) 75 rfl 6 Tryz.sizeOf75 (W.heap.size + 2) zs Z1.out 75 Z2.out ?_ [.slice p1 m0.length o1, .slice p1b m1.length o1b, .string q1.1, .int .i64 kd, .int .i64 sz, .string q2.1] ?_ LN.out ON.out ?_); rfl; rfl))
  refine bodyPost_ret (v := .agg ⟨[.slice p1 m0.length o1, .slice p1b m1.length o1b, .string q1.1, .int .i64 kd, .int .i64 sz, .string q2.1]⟩) ?_ rfl ?_
  · exact results_cell (i := 4) (b := W.heap.size + 2) Tryz.results91 Tryz.isAgg75 Tryz.sizeOf75 rfl rfl R3.out.j.last.1
  · have HO : tV C st [.row m0, .row m1, .str nm, .int kd, .int sz, .str tn] = ([.row m0, .row m1, .str q1.1, .int kd, .int sz, .str q2.1], q2.2) := by
      show (([.row m0, .row m1, .str (C.nm st nm).1, .int kd, .int sz, .str (C.nm (C.nm st nm).2 tn).1] : List D), (C.nm (C.nm st nm).2 tn).2) = _
      rw [HQ1.out, HQ2.out]
    rw [HO]
    exact ⟨[.slice p1 m0.length o1, .slice p1b m1.length o1b, .string q1.1, .int .i64 kd, .int .i64 sz, .string q2.1], rfl, R3.out.last HLW.out, R3.out.j.last.2.1, R3.out.j.last.2.2⟩
end Go.Proofs.YtciijpahjjoppaaGreat
end
section
namespace Go.Proofs.YtciijpahjjoppaaGreat
open Go.RowKit Go.Shelf Go.Deep
set_option maxRecDepth 100000 in
set_option maxHeartbeats 16000000 in
theorem tmP_any {σ : Type} {g : Nat} {c1 c2 : Value} (C : Clo σ g c1 c2) (hg : g = 50 ∨ g = 59) (hout : ∀ s x, x.size ≤ lim → (C.out s x).size ≤ lim) (w0 : World) (hlow : w0.heap.size ≤ C.low) (x : List D) (hx : ShP x) (hb : mRow x ≤ 8000000)  : TFn C w0 129 (tP C) (nP) x := by
  intro vs hv n m st W hm hI hW
  obtain ⟨nm, kd, sz, tn, md, rfl, rfl, i_nm, _, _, i_tn, _⟩ := hv.openP hx
  simp only [mRow, mD] at hb
  have hm2 : n + ((parts nm).length + ((parts tn).length + 0)) ≤ m := by simp only [nP, List.length_append] at hm; omega
  have J0 := Lib.hid (BxD.start C hlow (T := 133) (cs := #[.string nm, .int .i64 kd, .int .i64 sz, .string tn, .int .i64 md]) (ds := [.str nm, .int kd, .int sz, .str tn, .int md]) (zs := #[.string ⟨#[]⟩, .int .i64 0, .int .i64 0, .string ⟨#[]⟩, .int .i64 0]) rfl (C.atLeast hI hm2) hW hv)
  have HG := Lib.hid hg
  have HLW := Lib.hid hW.size
  have HLOW := Lib.hid hlow
  have HOUT := Lib.hid hout
  have HGR := Lib.hid (fun (V : World) (k : Kept C.O C.hi W V) => k.ground hI hlow hW)
  clear hI hg hW hlow hout hm hm2 hv hx  
  go_enter Tryz.func129, Tryz.ntmps129
  go_wp2_with fail
  refine (name_any C HG.out (n + ((parts tn).length + 0)) st nm _ (C.atLeast J0.out.j.i (by omega)) (by unfold lim; omega)).mono ?_
  rintro e W1 ⟨rfl, i1, k1⟩
  have Q1 := Lib.hid (J0.out.called k1 i1)
  have M1 := Lib.hid (nm_le C HOUT.out st nm (by omega))
  clear i1 k1
  generalize hq1 : C.nm st nm = q1 at *
  have HQ1 := Lib.hid hq1
  clear hq1
  have cA1 := box_cells Q1.out.j.bt
  have cB1 : ∀ i, W1.cell? ⟨W.heap.size + 1, i, none⟩ = (#[.string nm, .int .i64 kd, .int .i64 sz, .string tn, .int .i64 md] : Array Value)[i]? := box_cells Q1.out.j.bx
  have fB1 := frozen_box Q1.out.j.bx
  go_wp2_with fail
  have R1 := Lib.hid (show BxD C w0.heap.size (n + ((parts tn).length + 0)) W q1.2 133 [.string q1.1, .int .i64 kd, .int .i64 sz, .string tn, .int .i64 md] [.str q1.1, .int kd, .int sz, .str tn, .int md] (W1.setCell ⟨W.heap.size + 1, 0, none⟩ (.string q1.1)) from Q1.out.set HLW.out 0 (.string q1.1) (.str q1.1) (.str _ M1.out))
  refine (name_any C HG.out (n + 0) q1.2 tn _ (C.atLeast R1.out.j.i (by omega)) (by unfold lim; omega)).mono ?_
  rintro e W2 ⟨rfl, i2, k2⟩
  have Q2 := Lib.hid (R1.out.called k2 i2)
  have M2 := Lib.hid (nm_le C HOUT.out q1.2 tn (by omega))
  clear i2 k2 cA1 cB1 fB1
  generalize hq2 : C.nm q1.2 tn = q2 at *
  have HQ2 := Lib.hid hq2
  clear hq2
  have cA2 := box_cells Q2.out.j.bt
  have cB2 : ∀ i, W2.cell? ⟨W.heap.size + 1, i, none⟩ = (#[.string q1.1, .int .i64 kd, .int .i64 sz, .string tn, .int .i64 md] : Array Value)[i]? := box_cells Q2.out.j.bx
  have fB2 := frozen_box Q2.out.j.bx
  have R2 := Lib.hid (show BxD C w0.heap.size (n + 0) W q2.2 133 [.string q1.1, .int .i64 kd, .int .i64 sz, .string q2.1, .int .i64 md] [.str q1.1, .int kd, .int sz, .str q2.1, .int md] (W2.setCell ⟨W.heap.size + 1, 3, none⟩ (.string q2.1)) from Q2.out.set HLW.out 3 (.string q2.1) (.str q2.1) (.str _ M2.out))
  have CL := Lib.hid (show ∀ (i : Nat) (v : Value), ([.string q1.1, .int .i64 kd, .int .i64 sz, .string q2.1, .int .i64 md] : List Value)[i]? = some v → (W2.setCell ⟨W.heap.size + 1, 3, none⟩ (.string q2.1)).cell? ⟨W.heap.size + 1, 0 + i, none⟩ = some v from fun i v hv => by rw [box_cells R2.out.j.bx, Nat.zero_add]; simpa using hv)
  obtain ⟨zs, z1, z2⟩ := R2.out.j.br
  have Z1 := Lib.hid (show zs.length = 5 from z1)
  have LN := Lib.hid (show ([.string q1.1, .int .i64 kd, .int .i64 sz, .string q2.1, .int .i64 md] : List Value).length = 5 from rfl)
  have ON := Lib.hid (show ∀ v ∈ ([.string q1.1, .int .i64 kd, .int .i64 sz, .string q2.1, .int .i64 md] : List Value), v.oneCell' = true from AllAt.one R2.out.d)
  have Z2 := Lib.hid z2
  clear z1 z2
  go_wp2_with (first
    | ((with_reducible refine wp_loadAgg (o := ⟨some 17, _, _, _, _, _⟩) rfl (.tmp 3) 133 rfl 5 Tryz.isAgg133 Tryz.sizeOf133 (W.heap.size + 1) 0 ?_ [.string q1.1, .int .i64 kd, .int .i64 sz, .string q2.1, .int .i64 md] LN.out CL.out ?_); rfl)
    | ((with_reducible refine wp_storeOld (o := ⟨none, .store 133 (.tmp 4) (.tmp 17), _, _, _, _⟩) rfl (.tmp 4) (.tmp 17) 133 rfl 5 Tryz.sizeOf133 (W.heap.size + 2) zs Z1.out 133 Z2.out ?_ [.string q1.1, .int .i64 kd, .int .i64 sz, .string q2.1, .int .i64 md] ?_ LN.out ON.out ?_); rfl; rfl))
  refine bodyPost_ret (v := .agg ⟨[.string q1.1, .int .i64 kd, .int .i64 sz, .string q2.1, .int .i64 md]⟩) ?_ rfl ?_
  · exact results_cell (i := 4) (b := W.heap.size + 2) Tryz.results129 Tryz.isAgg133 Tryz.sizeOf133 rfl rfl R2.out.j.last.1
  · have HO : tP C st [.str nm, .int kd, .int sz, .str tn, .int md] = ([.str q1.1, .int kd, .int sz, .str q2.1, .int md], q2.2) := by
      show (([.str (C.nm st nm).1, .int kd, .int sz, .str (C.nm (C.nm st nm).2 tn).1, .int md] : List D), (C.nm (C.nm st nm).2 tn).2) = _
      rw [HQ1.out, HQ2.out]
    rw [HO]
    exact ⟨[.string q1.1, .int .i64 kd, .int .i64 sz, .string q2.1, .int .i64 md], rfl, R2.out.last HLW.out, R2.out.j.last.2.1, R2.out.j.last.2.2⟩
end Go.Proofs.YtciijpahjjoppaaGreat
end
section
namespace Go.Proofs.YtciijpahjjoppaaGreat
open Go.RowKit Go.Shelf Go.Deep
set_option maxRecDepth 100000 in
set_option maxHeartbeats 16000000 in
theorem tmC_any {σ : Type} {g : Nat} {c1 c2 : Value} (C : Clo σ g c1 c2) (hg : g = 50 ∨ g = 59) (hout : ∀ s x, x.size ≤ lim → (C.out s x).size ≤ lim) (w0 : World) (hlow : w0.heap.size ≤ C.low) (x : List D) (hx : ShC x) (hb : mRow x ≤ 8000000) (hF : ∀ y, ShF y → mRow y ≤ mRow x → TFn C w0 127 (tF C) nF y) : TFn C w0 89 (tC C) (nC) x := by
  intro vs hv n m st W hm hI hW
  obtain ⟨m0, m1, nm, fs, en, m0a, m0c, m1a, m1c, fsa, fsc, ena, enc, rfl, rfl, a_m0, a_m1, i_nm, a_fs, a_en, t_m0, t_m1, t_fs, t_en⟩ := hv.openC hx
  have F_fs := Lib.hid (fun y (hy : y ∈ fs) => hF y (t_fs y hy) (by have := mRows_mem hy; simp only [mRow, mD]; omega))
  simp only [mRow, mD] at hb
  have l_m0 : m0.length ≤ 8000000 := by have := mRows_len m0 (fun y hy e => by rw [e] at hy; cases t_m0 _ hy); omega
  have l_m1 : m1.length ≤ 8000000 := by have := mRows_len m1 (fun y hy e => by rw [e] at hy; cases t_m1 _ hy); omega
  have l_fs : fs.length ≤ 8000000 := by have := mRows_len fs (fun y hy e => by rw [e] at hy; cases t_fs _ hy); omega
  have l_en : en.length ≤ 8000000 := by have := mRows_len en (fun y hy e => by rw [e] at hy; cases t_en _ hy); omega
  have hm2 : n + ((parts nm).length + ((fs.flatMap nF).length + 0)) ≤ m := by simp only [nC, List.length_append] at hm; omega
  have J0 := Lib.hid (BxD.start C hlow (T := 62) (cs := #[.slice m0a m0.length m0c, .slice m1a m1.length m1c, .string nm, .slice fsa fs.length fsc, .slice ena en.length enc]) (ds := [.row m0, .row m1, .str nm, .row fs, .row en]) (zs := #[.slice none 0 0, .slice none 0 0, .string ⟨#[]⟩, .slice none 0 0, .slice none 0 0]) rfl (C.atLeast hI hm2) hW hv)
  have HG := Lib.hid hg
  have HLW := Lib.hid hW.size
  have HLOW := Lib.hid hlow
  have HOUT := Lib.hid hout
  have HGR := Lib.hid (fun (V : World) (k : Kept C.O C.hi W V) => k.ground hI hlow hW)
  have A_m0 := Lib.hid a_m0
  have T_m0 := Lib.hid t_m0
  have A_m1 := Lib.hid a_m1
  have T_m1 := Lib.hid t_m1
  have A_fs := Lib.hid a_fs
  have T_fs := Lib.hid t_fs
  have A_en := Lib.hid a_en
  have T_en := Lib.hid t_en
  clear hI hg hW hlow hout hm hm2 hv hx a_m0 a_m1 a_fs a_en t_m0 t_m1 t_fs t_en hF
  go_enter Tryz.func89, Tryz.ntmps89
  go_wp2_with fail
  refine (tmarks_any C w0 HLOW.out m0 m1 m0a m0c m1a m1c A_m0.out A_m1.out T_m0.out T_m1.out l_m0 l_m1 (n + ((parts nm).length + ((fs.flatMap nF).length + 0))) st _ J0.out.j.i (HGR.out _ J0.out.j.kept)).mono ?_
  rintro e W1 ⟨p1, o1, p1b, o1b, rfl, d1, d1b, i1, k1⟩
  have Q1 := Lib.hid (J0.out.called k1 i1)
  have M1 := Lib.hid (show AllAt (NewN C w0.heap.size (W.heap.size + 3) W1) [.slice p1 m0.length o1, .slice p1b m1.length o1b] [.row m0, .row m1] from ⟨d1.sub (newN_less J0.out.j.sz), d1b.sub (newN_less J0.out.j.sz), trivial⟩)
  clear i1 k1 d1 d1b
  have cA1 := box_cells Q1.out.j.bt
  have cB1 : ∀ i, W1.cell? ⟨W.heap.size + 1, i, none⟩ = (#[.slice m0a m0.length m0c, .slice m1a m1.length m1c, .string nm, .slice fsa fs.length fsc, .slice ena en.length enc] : Array Value)[i]? := box_cells Q1.out.j.bx
  have fB1 := frozen_box Q1.out.j.bx
  have ON1 := Lib.hid (show ∀ v ∈ ([.slice p1 m0.length o1, .slice p1b m1.length o1b] : List Value), v.oneCell' = true from AllAt.one M1.out)
  go_wp2_with (first | ((with_reducible refine wp_storeOff (o := ⟨none, .store 59 (.tmp 9) (.tmp 8), _, _, _, _⟩) rfl (.tmp 9) (.tmp 8) 59 rfl 2 Tryz.sizeOf59 (W.heap.size + 1) 0 [.slice m0a m0.length m0c, .slice m1a m1.length m1c, .string nm, .slice fsa fs.length fsc, .slice ena en.length enc] (by decide) 62 Q1.out.j.bx ?_ [.slice p1 m0.length o1, .slice p1b m1.length o1b] ?_ rfl ON1.out ?_); rfl; rfl))
  have R1 := Lib.hid (show BxD C w0.heap.size (n + ((parts nm).length + ((fs.flatMap nF).length + 0))) W st 62 [.slice p1 m0.length o1, .slice p1b m1.length o1b, .string nm, .slice fsa fs.length fsc, .slice ena en.length enc] [.row m0, .row m1, .str nm, .row fs, .row en] (W1.setCells (W.heap.size + 1) 0 [.slice p1 m0.length o1, .slice p1b m1.length o1b]) from BxD.sets HLW.out 0 Q1.out M1.out)
  refine (name_any C HG.out (n + ((fs.flatMap nF).length + 0)) st nm _ (C.atLeast R1.out.j.i (by omega)) (by unfold lim; omega)).mono ?_
  rintro e W2 ⟨rfl, i2, k2⟩
  have Q2 := Lib.hid (R1.out.called k2 i2)
  have M2 := Lib.hid (nm_le C HOUT.out st nm (by omega))
  clear i2 k2 cA1 cB1 fB1
  generalize hq1 : C.nm st nm = q1 at *
  have HQ1 := Lib.hid hq1
  clear hq1
  have cA2 := box_cells Q2.out.j.bt
  have cB2 : ∀ i, W2.cell? ⟨W.heap.size + 1, i, none⟩ = (#[.slice p1 m0.length o1, .slice p1b m1.length o1b, .string nm, .slice fsa fs.length fsc, .slice ena en.length enc] : Array Value)[i]? := box_cells Q2.out.j.bx
  have fB2 := frozen_box Q2.out.j.bx
  go_wp2_with fail
  have R2 := Lib.hid (show BxD C w0.heap.size (n + ((fs.flatMap nF).length + 0)) W q1.2 62 [.slice p1 m0.length o1, .slice p1b m1.length o1b, .string q1.1, .slice fsa fs.length fsc, .slice ena en.length enc] [.row m0, .row m1, .str q1.1, .row fs, .row en] (W2.setCell ⟨W.heap.size + 1, 2, none⟩ (.string q1.1)) from Q2.out.set HLW.out 2 (.string q1.1) (.str q1.1) (.str _ M2.out))
  refine (turnF_any C w0 HLOW.out (tF C) nF fsa fs.length fsc fs A_fs.out T_fs.out l_fs F_fs.out (fun y hy s => tF_len C s (T_fs.out y hy)) (n + 0) _ q1.2 (by omega) _ R2.out.j.i (HGR.out _ R2.out.j.kept)).mono ?_
  rintro e W3 ⟨p3, o3, rfl, d3, i3, k3⟩
  have Q3 := Lib.hid (R2.out.called k3 i3)
  have M3 := Lib.hid (d3.sub (newN_less R2.out.j.sz))
  clear i3 k3 d3 cA2 cB2 fB2
  generalize hq2 : turnL (tF C) q1.2 fs = q2 at *
  have HQ2 := Lib.hid hq2
  clear hq2
  have cA3 := box_cells Q3.out.j.bt
  have cB3 : ∀ i, W3.cell? ⟨W.heap.size + 1, i, none⟩ = (#[.slice p1 m0.length o1, .slice p1b m1.length o1b, .string q1.1, .slice fsa fs.length fsc, .slice ena en.length enc] : Array Value)[i]? := box_cells Q3.out.j.bx
  have fB3 := frozen_box Q3.out.j.bx
  go_wp2_with fail
  have R3 := Lib.hid (show BxD C w0.heap.size (n + 0) W q2.2 62 [.slice p1 m0.length o1, .slice p1b m1.length o1b, .string q1.1, .slice p3 q2.1.length o3, .slice ena en.length enc] [.row m0, .row m1, .str q1.1, .row q2.1, .row en] (W3.setCell ⟨W.heap.size + 1, 3, none⟩ (.slice p3 q2.1.length o3)) from Q3.out.set HLW.out 3 (.slice p3 q2.1.length o3) (.row q2.1) M3.out)
  refine (tnotes_any C w0 HLOW.out ena en.length enc en A_en.out T_en.out l_en (n + 0) q2.2 _ R3.out.j.i (HGR.out _ R3.out.j.kept)).mono ?_
  rintro e W4 ⟨p4, o4, rfl, d4, i4, k4⟩
  have Q4 := Lib.hid (R3.out.called k4 i4)
  have M4 := Lib.hid (d4.sub (newN_less R3.out.j.sz))
  clear i4 k4 d4 cA3 cB3 fB3
  have cA4 := box_cells Q4.out.j.bt
  have cB4 : ∀ i, W4.cell? ⟨W.heap.size + 1, i, none⟩ = (#[.slice p1 m0.length o1, .slice p1b m1.length o1b, .string q1.1, .slice p3 q2.1.length o3, .slice ena en.length enc] : Array Value)[i]? := box_cells Q4.out.j.bx
  have fB4 := frozen_box Q4.out.j.bx
  have R4 := Lib.hid (show BxD C w0.heap.size (n + 0) W q2.2 62 [.slice p1 m0.length o1, .slice p1b m1.length o1b, .string q1.1, .slice p3 q2.1.length o3, .slice p4 en.length o4] [.row m0, .row m1, .str q1.1, .row q2.1, .row en] (W4.setCell ⟨W.heap.size + 1, 4, none⟩ (.slice p4 en.length o4)) from Q4.out.set HLW.out 4 (.slice p4 en.length o4) (.row en) M4.out)
  have CL := Lib.hid (show ∀ (i : Nat) (v : Value), ([.slice p1 m0.length o1, .slice p1b m1.length o1b, .string q1.1, .slice p3 q2.1.length o3, .slice p4 en.length o4] : List Value)[i]? = some v → (W4.setCell ⟨W.heap.size + 1, 4, none⟩ (.slice p4 en.length o4)).cell? ⟨W.heap.size + 1, 0 + i, none⟩ = some v from fun i v hv => by rw [box_cells R4.out.j.bx, Nat.zero_add]; simpa using hv)
  obtain ⟨zs, z1, z2⟩ := R4.out.j.br
  have Z1 := Lib.hid (show zs.length = 5 from z1)
  have LN := Lib.hid (show ([.slice p1 m0.length o1, .slice p1b m1.length o1b, .string q1.1, .slice p3 q2.1.length o3, .slice p4 en.length o4] : List Value).length = 5 from rfl)
  have ON := Lib.hid (show ∀ v ∈ ([.slice p1 m0.length o1, .slice p1b m1.length o1b, .string q1.1, .slice p3 q2.1.length o3, .slice p4 en.length o4] : List Value), v.oneCell' = true from AllAt.one R4.out.d)
  have Z2 := Lib.hid z2
  clear z1 z2
  go_wp2_with (first
    | ((with_reducible refine wp_loadAgg (o := ⟨some 26, _, _, _, _, _⟩) rfl (.tmp 3) 62 rfl 5 Tryz.isAgg62 Tryz.sizeOf62 (W.heap.size + 1) 0 ?_ [.slice p1 m0.length o1, .slice p1b m1.length o1b, .string q1.1, .slice p3 q2.1.length o3, .slice p4 en.length o4] LN.out CL.out ?_); rfl)
    | ((with_reducible refine wp_storeOld (o := ⟨none, .store 62 (.tmp 4) (.tmp 26), _, _, _, _⟩) rfl (.tmp 4) (.tmp 26) 62 rfl 5 Tryz.sizeOf62 (W.heap.size + 2) zs Z1.out 62 Z2.out ?_ [.slice p1 m0.length o1, .slice p1b m1.length o1b, .string q1.1, .slice p3 q2.1.length o3, .slice p4 en.length o4] ?_ LN.out ON.out ?_); rfl; rfl))
  refine bodyPost_ret (v := .agg ⟨[.slice p1 m0.length o1, .slice p1b m1.length o1b, .string q1.1, .slice p3 q2.1.length o3, .slice p4 en.length o4]⟩) ?_ rfl ?_
  · exact results_cell (i := 4) (b := W.heap.size + 2) Tryz.results89 Tryz.isAgg62 Tryz.sizeOf62 rfl rfl R4.out.j.last.1
  · have HO : tC C st [.row m0, .row m1, .str nm, .row fs, .row en] = ([.row m0, .row m1, .str q1.1, .row q2.1, .row en], q2.2) := by
      show (([.row m0, .row m1, .str (C.nm st nm).1, .row (turnL (tF C) (C.nm st nm).2 fs).1, .row en] : List D), (turnL (tF C) (C.nm st nm).2 fs).2) = _
      rw [HQ1.out, HQ2.out]
    rw [HO]
    exact ⟨[.slice p1 m0.length o1, .slice p1b m1.length o1b, .string q1.1, .slice p3 q2.1.length o3, .slice p4 en.length o4], rfl, R4.out.last HLW.out, R4.out.j.last.2.1, R4.out.j.last.2.2⟩
end Go.Proofs.YtciijpahjjoppaaGreat
end
