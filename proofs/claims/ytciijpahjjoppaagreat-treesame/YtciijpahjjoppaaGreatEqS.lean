/-
  Rows compared by a function (slices.EqualFunc), element by element: walked, at each element type.
-/
import Derived.Test.YtciijpahjjoppaaGreatLws
namespace Go.Proofs.YtciijpahjjoppaaGreat
open Go.RowKit Go.Deep
theorem ShS.lenS {ds : List D} (h : ShS ds) : ds.length = 16 := by cases h; rfl

set_option maxRecDepth 100000 in
set_option maxHeartbeats 1000000 in
theorem equalS_any (w0 : World) (a a' : Option Addr) (len len' cap cap' : Nat) (l l' : List (List D)) (hA : At w0 (.slice a len cap) (.row l)) (hA' : At w0 (.slice a' len' cap') (.row l')) (hs : ∀ x ∈ l, ShS x) (hs' : ∀ x ∈ l', ShS x)
    (hf : EqFn w0 43 l l') (W : World) (hW : Below w0.heap.size w0 W) : Calls Tryz.prog 42 #[.slice a len cap, .slice a' len' cap', .func (.func 43) #[] #[]] W (EqPost l l' W) := by
  have HA := Lib.hid hA
  have HA' := Lib.hid hA'
  have HS := Lib.hid hs
  have HS' := Lib.hid hs'
  have HF := Lib.hid hf
  have HW := Lib.hid hW
  have hle := hA.len_le
  have hle' := hA'.len_le
  have HL := Lib.hid hA.len_eq.1
  have HL' := Lib.hid hA'.len_eq.1
  clear hA hA' hs hs' hf hW
  by_cases hn : len = len'
  · subst hn
    go_enter Tryz.func42, Tryz.ntmps42
    go_wp2_with fail
    go_loopw [17] (fun i wr => ∃ k : Nat, k ≤ len ∧ i = .int .i64 k ∧ l.take k = l'.take k ∧ Below W.heap.size W wr) (fun i _ => len - (intOf i).toNat)
    case atStart => exact ⟨0, Nat.zero_le _, rfl, rfl, Below.refl _ _⟩
    case round =>
      obtain ⟨k, hk, rfl, ht, hb⟩ := hrel
      have HT := Lib.hid ht
      have HB := Lib.hid hb
      clear ht hb
      by_cases hlt : k < len
      · obtain ⟨b, o, vs, ds, rfl, hbl, hx, hv, hc⟩ := HA.out.elem hlt
        obtain ⟨b', o', vs', ds', rfl, hbl', hx', hv', hc'⟩ := HA'.out.elem hlt
        have hfn := HF.out ds (List.mem_of_getElem? hx) ds' (List.mem_of_getElem? hx') vs vs' hv hv'
        have hdl : ds.length = 16 := (HS.out _ (List.mem_of_getElem? hx)).lenS
        have hdl' : ds'.length = 16 := (HS'.out _ (List.mem_of_getElem? hx')).lenS
        rw [hdl] at hc
        rw [hdl'] at hc'
        have hvl := Lib.hid (hv.len.trans hdl)
        have hvl' := Lib.hid (hv'.len.trans hdl')
        have hvo := Lib.hid hv.one
        have hvo' := Lib.hid hv'.one
        clear hdl hdl' hv hv'
        have B0 := HW.out.trans (HB.out.mono HW.out.size)
        have hbw : b < wr.heap.size := Nat.lt_of_lt_of_le hbl B0.size
        have hbw' : b' < wr.heap.size := Nat.lt_of_lt_of_le hbl' B0.size
        have C0 := Lib.hid (show ∀ j v, vs[j]? = some v → wr.cell? ⟨b, o + k * 16 + j, none⟩ = some v from fun j v hv => (B0.cell (p := ⟨b, o + k * 16 + j, none⟩) hbl).trans (hc j v hv))
        have N1 := (Below.refl wr.heap.size wr).alloc (Nat.le_refl _) (.cells ⟨vs⟩ 84)
        have N2 := N1.alloc (by simp) (.cells ⟨vs'⟩ 84)
        have C1 := Lib.hid (show ∀ j v, vs'[j]? = some v → (wr.alloc (.cells ⟨vs⟩ 84)).cell? ⟨b', o' + k * 16 + j, none⟩ = some v from fun j v hv => (N1.cell (p := ⟨b', o' + k * 16 + j, none⟩) hbw').trans ((B0.cell (p := ⟨b', o' + k * 16 + j, none⟩) hbl').trans (hc' j v hv)))
        have C2 := Lib.hid (show ∀ j v, vs[j]? = some v → ((wr.alloc (.cells ⟨vs⟩ 84)).alloc (.cells ⟨vs'⟩ 84)).cell? ⟨wr.heap.size, 0 + j, none⟩ = some v from fun j v hv => by
          rw [((Below.refl (wr.alloc (.cells ⟨vs⟩ 84)).heap.size (wr.alloc (.cells ⟨vs⟩ 84))).alloc (Nat.le_refl _) (.cells ⟨vs'⟩ 84)).cell (p := ⟨wr.heap.size, 0 + j, none⟩) (by simp), box_cells (heap_new wr (.cells ⟨vs⟩ 84))]
          simpa using hv)
        have C3 := Lib.hid (show ∀ j v, vs'[j]? = some v → ((wr.alloc (.cells ⟨vs⟩ 84)).alloc (.cells ⟨vs'⟩ 84)).cell? ⟨wr.heap.size + 1, 0 + j, none⟩ = some v from fun j v hv => by
          have := heap_new (wr.alloc (.cells ⟨vs⟩ 84)) (.cells ⟨vs'⟩ 84)
          rw [World.size_alloc] at this
          rw [box_cells this]
          simpa using hv)
        have FN := Lib.hid (hfn _ (B0.trans (N2.mono B0.size)))
        have HR := Lib.hid (HB.out.trans (N2.mono HB.out.size))
        have HX := Lib.hid hx
        have HX' := Lib.hid hx'
        clear hfn hx hx' B0 hc hc' N1 N2
        go_wp2_with (first
          | ((with_reducible refine wp_loadAgg (o := ⟨some 21, _, _, _, _, _⟩) rfl (.tmp 20) 84 rfl 16 Tryz.isAgg84 Tryz.sizeOf84 b (o + k * 16) ?_ vs hvl.out C0.out ?_); rfl)
          | ((with_reducible refine wp_storeNew (o := ⟨none, .store 84 (.tmp 8) (.tmp 21), _, _, _, _⟩) rfl (.tmp 8) (.tmp 21) 84 rfl 16 Tryz.sizeOf84 _ ?_ ?_ vs ?_ hvl.out hvo.out ?_); rfl; rfl; rfl)
          | ((with_reducible refine wp_loadAgg (o := ⟨some 25, _, _, _, _, _⟩) rfl (.tmp 24) 84 rfl 16 Tryz.isAgg84 Tryz.sizeOf84 b' (o' + k * 16) ?_ vs' hvl'.out C1.out ?_); rfl)
          | ((with_reducible refine wp_storeNew (o := ⟨none, .store 84 (.tmp 9) (.tmp 25), _, _, _, _⟩) rfl (.tmp 9) (.tmp 25) 84 rfl 16 Tryz.sizeOf84 _ ?_ ?_ vs' ?_ hvl'.out hvo'.out ?_); rfl; (rw [World.size_alloc]; rfl); rfl)
          | ((with_reducible refine wp_loadAgg (o := ⟨some 27, _, _, _, _, _⟩) rfl (.tmp 8) 84 rfl 16 Tryz.isAgg84 Tryz.sizeOf84 wr.heap.size 0 ?_ vs hvl.out C2.out ?_); rfl)
          | ((with_reducible refine wp_loadAgg (o := ⟨some 28, _, _, _, _, _⟩) rfl (.tmp 9) 84 rfl 16 Tryz.isAgg84 Tryz.sizeOf84 (wr.heap.size + 1) 0 ?_ vs' hvl'.out C3.out ?_); rfl))
        refine FN.out.mono ?_
        rintro e w3 ⟨rfl, b3⟩
        have HB4 := Lib.hid (HR.out.trans (b3.mono HR.out.size))
        clear b3
        cases hsm : same ds ds' with
        | true =>
          have HE := Lib.hid ((same_iff _ _).1 hsm)
          clear hsm
          go_wp2_with fail
          go_roundw
          case rel => exact ⟨k + 1, by omega, by go_num, take_same_succ HX.out (HE.out ▸ HX'.out) HT.out, HB4.out⟩
          case measure => simp [intOf]; omega
        | false =>
          have HE := Lib.hid (same_miss HX.out HX'.out hsm)
          clear hsm
          go_wp2_with fail
          go_ret
          exact ⟨by rw [HE.out]; rfl, HB4.out⟩
      · obtain rfl : k = len := by omega
        go_wp2_with fail
        go_ret
        exact ⟨by rw [same_end (HL.out.trans HL'.out.symm) (by rw [HL.out]; exact HT.out)]; rfl, HB.out⟩
  · have hne : (len == len') = false := by simpa using hn
    have HN := Lib.hid (same_len (l := l) (l' := l') (by rw [HL.out, HL'.out]; exact hn))
    go_enter Tryz.func42, Tryz.ntmps42
    go_wp2_with fail
    go_ret
    exact ⟨by rw [HN.out]; rfl, Below.refl _ _⟩
end Go.Proofs.YtciijpahjjoppaaGreat
