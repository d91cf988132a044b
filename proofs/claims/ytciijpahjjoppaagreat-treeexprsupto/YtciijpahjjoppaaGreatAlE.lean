/-
  tree.all, at each element type: walked.
-/
import Derived.Test.YtciijpahjjoppaaGreatAlb
namespace Go.Proofs.YtciijpahjjoppaaGreat
open Go.RowKit Go.Deep
set_option maxRecDepth 100000 in
set_option maxHeartbeats 1000000 in
theorem allE_any (w0 : World) (g : Nat) (c : Value) (f : List D → Bool) (a : Option Addr) (len cap : Nat) (l : List (List D)) (hA : At w0 (.slice a len cap) (.row l)) (hs : ∀ x ∈ l, ShE x) (hf : OkFn w0 g c l f) (eg : ∀ args w, (callFunc g args).run Tryz.prog w = .ok (.enter g args) w) (W : World) (hW : Below w0.heap.size w0 W) :
    Calls Tryz.prog 64 #[.slice a len cap, .func (.func g) #[c] #[]] W fun e W' => e = .returned (.bool (okAll l f)) ∧ Below W.heap.size W W' := by
  have HA := Lib.hid hA
  have HS := Lib.hid hs
  have HF := Lib.hid hf
  have HW := Lib.hid hW
  have hle := hA.len_le
  have HL := Lib.hid hA.len_eq.1
  clear hA hs hf hW
  by_cases hbig : 512 < len
  · have hd : decide ((512 : Int) < (len : Int)) = true := by simp; omega
    have HO := Lib.hid (okAll_long (f := f) (show 512 < l.length by rw [HL.out]; exact hbig))
    go_enter Tryz.func64, Tryz.ntmps64
    go_wp2_with fail
    go_ret
    exact ⟨by rw [HO.out]; rfl, Below.refl _ _⟩
  · have hd : decide ((512 : Int) < (len : Int)) = false := by simp; omega
    go_enter Tryz.func64, Tryz.ntmps64
    go_wp2_with fail
    go_loopw [12] (fun i wr => ∃ k : Nat, k ≤ len ∧ i = .int .i64 k ∧ (l.take k).all f = true ∧ Below W.heap.size W wr) (fun i _ => len - (intOf i).toNat)
    case atStart => exact ⟨0, Nat.zero_le _, rfl, rfl, Below.refl _ _⟩
    case round =>
      obtain ⟨k, hk, rfl, ht, hb⟩ := hrel
      have HT := Lib.hid ht
      have HB := Lib.hid hb
      clear ht hb
      by_cases hlt : k < len
      · obtain ⟨b, o, vs, ds, rfl, hbl, hx, hv, hc⟩ := HA.out.elem hlt
        have hfn := HF.out ds (List.mem_of_getElem? hx) vs hv
        have hdl : ds.length = 5 := (HS.out _ (List.mem_of_getElem? hx)).ln
        rw [hdl] at hc
        have hvl := Lib.hid (hv.len.trans hdl)
        have hvo := Lib.hid hv.one
        clear hdl hv
        have B0 := HW.out.trans (HB.out.mono HW.out.size)
        have hbw : b < wr.heap.size := Nat.lt_of_lt_of_le hbl B0.size
        have C0 := Lib.hid (show ∀ j v, vs[j]? = some v → wr.cell? ⟨b, o + k * 5 + j, none⟩ = some v from fun j v hv => (B0.cell (p := ⟨b, o + k * 5 + j, none⟩) hbl).trans (hc j v hv))
        have N1 := (Below.refl wr.heap.size wr).alloc (Nat.le_refl _) (.cells ⟨vs⟩ 24)
        have C2 := Lib.hid (show ∀ j v, vs[j]? = some v → (wr.alloc (.cells ⟨vs⟩ 24)).cell? ⟨wr.heap.size, 0 + j, none⟩ = some v from fun j v hv => by
          rw [box_cells (heap_new wr (.cells ⟨vs⟩ 24))]
          simpa using hv)
        have FN := Lib.hid (hfn _ (B0.trans (N1.mono B0.size)))
        have HR := Lib.hid (HB.out.trans (N1.mono HB.out.size))
        have HX := Lib.hid hx
        clear hfn hx B0 hc N1
        go_wp2_with (first
          | ((with_reducible refine wp_loadAgg (o := ⟨some 15, _, _, _, _, _⟩) rfl (.tmp 14) 24 rfl 5 Tryz.isAgg24 Tryz.sizeOf24 b (o + k * 5) ?_ vs hvl.out C0.out ?_); rfl)
          | ((with_reducible refine wp_storeNew (o := ⟨none, .store 24 (.tmp 6) (.tmp 15), _, _, _, _⟩) rfl (.tmp 6) (.tmp 15) 24 rfl 5 Tryz.sizeOf24 _ ?_ ?_ vs ?_ hvl.out hvo.out ?_); rfl; rfl; rfl)
          | ((with_reducible refine wp_loadAgg (o := ⟨some 17, _, _, _, _, _⟩) rfl (.tmp 6) 24 rfl 5 Tryz.isAgg24 Tryz.sizeOf24 wr.heap.size 0 ?_ vs hvl.out C2.out ?_); rfl))
        refine FN.out.mono ?_
        rintro e w3 ⟨rfl, b3⟩
        have HB4 := Lib.hid (HR.out.trans (b3.mono HR.out.size))
        clear b3
        cases hsm : f ds with
        | true =>
          have HE := Lib.hid (all_take_succ HX.out HT.out hsm)
          clear hsm
          go_wp2_with fail
          go_roundw
          case rel => exact ⟨k + 1, by omega, by go_num, HE.out, HB4.out⟩
          case measure => simp [intOf]; omega
        | false =>
          have HE := Lib.hid (okAll_bad HX.out hsm)
          clear hsm
          go_wp2_with fail
          go_ret
          exact ⟨by rw [HE.out]; rfl, HB4.out⟩
      · obtain rfl : k = len := by omega
        have HE := Lib.hid (okAll_good (l := l) (f := f) (by rw [HL.out]; omega) (by rw [HL.out]; exact HT.out))
        go_wp2_with fail
        go_ret
        exact ⟨by rw [HE.out]; rfl, HB.out⟩
end Go.Proofs.YtciijpahjjoppaaGreat
