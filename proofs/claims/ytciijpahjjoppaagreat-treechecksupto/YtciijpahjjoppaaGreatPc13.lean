/-
  Texts of this proof, put together.
-/
import Derived.Test.YtciijpahjjoppaaGreatPc3
import Derived.Test.YtciijpahjjoppaaGreatPc8
import Derived.Test.YtciijpahjjoppaaGreatPc9
import Derived.Test.YtciijpahjjoppaaGreatPc10
import Derived.Test.YtciijpahjjoppaaGreatPc11
import Derived.Test.YtciijpahjjoppaaGreatPc12
import Derived.Test.YtciijpahjjoppaaGreatPc7
section
namespace Go.Proofs.YtciijpahjjoppaaGreat
open Go.RowKit Go.Deep
set_option maxRecDepth 100000 in
set_option maxHeartbeats 1000000 in
theorem allR_any (w0 : World) (g : Nat) (c : Value) (f : List D → Bool) (a : Option Addr) (len cap : Nat) (l : List (List D)) (hA : At w0 (.slice a len cap) (.row l)) (hs : ∀ x ∈ l, ShR x) (hf : OkFn w0 g c l f) (eg : ∀ args w, (callFunc g args).run Tryz.prog w = .ok (.enter g args) w) (W : World) (hW : Below w0.heap.size w0 W) :
    Calls Tryz.prog 109 #[.slice a len cap, .func (.func g) #[c] #[]] W fun e W' => e = .returned (.bool (okAll l f)) ∧ Below W.heap.size W W' := by
  have HA := Lib.hid hA
  have HS := Lib.hid hs
  have HF := Lib.hid hf
  have HW := Lib.hid hW
  have hle := hA.len_le
  have HL := Lib.hid hA.len_eq.1
  clear hA hs hf hW
  by_cases hbig : 512 < len
  · have hd : decide ((512 : Int) < (len : Int)) = true := by simp; omega
    have HO := Lib.hid (okAll_long (f := f) (show 512 < l.length by rw [HL.out]; exact hbig))
    go_enter Tryz.func109, Tryz.ntmps109
    go_wp2_with fail
    go_ret
    exact ⟨by rw [HO.out]; rfl, Below.refl _ _⟩
  · have hd : decide ((512 : Int) < (len : Int)) = false := by simp; omega
    go_enter Tryz.func109, Tryz.ntmps109
    go_wp2_with fail
    go_loopw [12] (fun i wr => ∃ k : Nat, k ≤ len ∧ i = .int .i64 k ∧ (l.take k).all f = true ∧ Below W.heap.size W wr) (fun i _ => len - (intOf i).toNat)
    case atStart => exact ⟨0, Nat.zero_le _, rfl, rfl, Below.refl _ _⟩
    case round =>
      obtain ⟨k, hk, rfl, ht, hb⟩ := hrel
      have HT := Lib.hid ht
      have HB := Lib.hid hb
      clear ht hb
      by_cases hlt : k < len
      · obtain ⟨b, o, vs, ds, rfl, hbl, hx, hv, hc⟩ := HA.out.elem hlt
        have hfn := HF.out ds (List.mem_of_getElem? hx) vs hv
        have hdl : ds.length = 9 := (HS.out _ (List.mem_of_getElem? hx)).ln
        rw [hdl] at hc
        have hvl := Lib.hid (hv.len.trans hdl)
        have hvo := Lib.hid hv.one
        clear hdl hv
        have B0 := HW.out.trans (HB.out.mono HW.out.size)
        have hbw : b < wr.heap.size := Nat.lt_of_lt_of_le hbl B0.size
        have C0 := Lib.hid (show ∀ j v, vs[j]? = some v → wr.cell? ⟨b, o + k * 9 + j, none⟩ = some v from fun j v hv => (B0.cell (p := ⟨b, o + k * 9 + j, none⟩) hbl).trans (hc j v hv))
        have N1 := (Below.refl wr.heap.size wr).alloc (Nat.le_refl _) (.cells ⟨vs⟩ 80)
        have C2 := Lib.hid (show ∀ j v, vs[j]? = some v → (wr.alloc (.cells ⟨vs⟩ 80)).cell? ⟨wr.heap.size, 0 + j, none⟩ = some v from fun j v hv => by
          rw [box_cells (heap_new wr (.cells ⟨vs⟩ 80))]
          simpa using hv)
        have FN := Lib.hid (hfn _ (B0.trans (N1.mono B0.size)))
        have HR := Lib.hid (HB.out.trans (N1.mono HB.out.size))
        have HX := Lib.hid hx
        clear hfn hx B0 hc N1
        go_wp2_with (first
          | ((with_reducible refine wp_loadAgg (o := ⟨some 15, _, _, _, _, _⟩) rfl (.tmp 14) 80 rfl 9 Tryz.isAgg80 Tryz.sizeOf80 b (o + k * 9) ?_ vs hvl.out C0.out ?_); rfl)
          | ((with_reducible refine wp_storeNew (o := ⟨none, .store 80 (.tmp 6) (.tmp 15), _, _, _, _⟩) rfl (.tmp 6) (.tmp 15) 80 rfl 9 Tryz.sizeOf80 _ ?_ ?_ vs ?_ hvl.out hvo.out ?_); rfl; rfl; rfl)
          | ((with_reducible refine wp_loadAgg (o := ⟨some 17, _, _, _, _, _⟩) rfl (.tmp 6) 80 rfl 9 Tryz.isAgg80 Tryz.sizeOf80 wr.heap.size 0 ?_ vs hvl.out C2.out ?_); rfl))
        refine FN.out.mono ?_
        rintro e w3 ⟨rfl, b3⟩
        have HB4 := Lib.hid (HR.out.trans (b3.mono HR.out.size))
        clear b3
        cases hsm : f ds with
        | true =>
          have HE := Lib.hid (all_take_succ HX.out HT.out hsm)
          clear hsm
          go_wp2_with fail
          go_roundw
          case rel => exact ⟨k + 1, by omega, by go_num, HE.out, HB4.out⟩
          case measure => simp [intOf]; omega
        | false =>
          have HE := Lib.hid (okAll_bad HX.out hsm)
          clear hsm
          go_wp2_with fail
          go_ret
          exact ⟨by rw [HE.out]; rfl, HB4.out⟩
      · obtain rfl : k = len := by omega
        have HE := Lib.hid (okAll_good (l := l) (f := f) (by rw [HL.out]; omega) (by rw [HL.out]; exact HT.out))
        go_wp2_with fail
        go_ret
        exact ⟨by rw [HE.out]; rfl, HB.out⟩
end Go.Proofs.YtciijpahjjoppaaGreat
end
section
namespace Go.Proofs.YtciijpahjjoppaaGreat
open Go.RowKit Go.Deep
set_option maxRecDepth 100000 in
set_option maxHeartbeats 1000000 in
theorem allC_any (w0 : World) (g : Nat) (c : Value) (f : List D → Bool) (a : Option Addr) (len cap : Nat) (l : List (List D)) (hA : At w0 (.slice a len cap) (.row l)) (hs : ∀ x ∈ l, ShC x) (hf : OkFn w0 g c l f) (eg : ∀ args w, (callFunc g args).run Tryz.prog w = .ok (.enter g args) w) (W : World) (hW : Below w0.heap.size w0 W) :
    Calls Tryz.prog 69 #[.slice a len cap, .func (.func g) #[c] #[]] W fun e W' => e = .returned (.bool (okAll l f)) ∧ Below W.heap.size W W' := by
  have HA := Lib.hid hA
  have HS := Lib.hid hs
  have HF := Lib.hid hf
  have HW := Lib.hid hW
  have hle := hA.len_le
  have HL := Lib.hid hA.len_eq.1
  clear hA hs hf hW
  by_cases hbig : 512 < len
  · have hd : decide ((512 : Int) < (len : Int)) = true := by simp; omega
    have HO := Lib.hid (okAll_long (f := f) (show 512 < l.length by rw [HL.out]; exact hbig))
    go_enter Tryz.func69, Tryz.ntmps69
    go_wp2_with fail
    go_ret
    exact ⟨by rw [HO.out]; rfl, Below.refl _ _⟩
  · have hd : decide ((512 : Int) < (len : Int)) = false := by simp; omega
    go_enter Tryz.func69, Tryz.ntmps69
    go_wp2_with fail
    go_loopw [12] (fun i wr => ∃ k : Nat, k ≤ len ∧ i = .int .i64 k ∧ (l.take k).all f = true ∧ Below W.heap.size W wr) (fun i _ => len - (intOf i).toNat)
    case atStart => exact ⟨0, Nat.zero_le _, rfl, rfl, Below.refl _ _⟩
    case round =>
      obtain ⟨k, hk, rfl, ht, hb⟩ := hrel
      have HT := Lib.hid ht
      have HB := Lib.hid hb
      clear ht hb
      by_cases hlt : k < len
      · obtain ⟨b, o, vs, ds, rfl, hbl, hx, hv, hc⟩ := HA.out.elem hlt
        have hfn := HF.out ds (List.mem_of_getElem? hx) vs hv
        have hdl : ds.length = 5 := (HS.out _ (List.mem_of_getElem? hx)).ln
        rw [hdl] at hc
        have hvl := Lib.hid (hv.len.trans hdl)
        have hvo := Lib.hid hv.one
        clear hdl hv
        have B0 := HW.out.trans (HB.out.mono HW.out.size)
        have hbw : b < wr.heap.size := Nat.lt_of_lt_of_le hbl B0.size
        have C0 := Lib.hid (show ∀ j v, vs[j]? = some v → wr.cell? ⟨b, o + k * 5 + j, none⟩ = some v from fun j v hv => (B0.cell (p := ⟨b, o + k * 5 + j, none⟩) hbl).trans (hc j v hv))
        have N1 := (Below.refl wr.heap.size wr).alloc (Nat.le_refl _) (.cells ⟨vs⟩ 62)
        have C2 := Lib.hid (show ∀ j v, vs[j]? = some v → (wr.alloc (.cells ⟨vs⟩ 62)).cell? ⟨wr.heap.size, 0 + j, none⟩ = some v from fun j v hv => by
          rw [box_cells (heap_new wr (.cells ⟨vs⟩ 62))]
          simpa using hv)
        have FN := Lib.hid (hfn _ (B0.trans (N1.mono B0.size)))
        have HR := Lib.hid (HB.out.trans (N1.mono HB.out.size))
        have HX := Lib.hid hx
        clear hfn hx B0 hc N1
        go_wp2_with (first
          | ((with_reducible refine wp_loadAgg (o := ⟨some 15, _, _, _, _, _⟩) rfl (.tmp 14) 62 rfl 5 Tryz.isAgg62 Tryz.sizeOf62 b (o + k * 5) ?_ vs hvl.out C0.out ?_); rfl)
          | ((with_reducible refine wp_storeNew (o := ⟨none, .store 62 (.tmp 6) (.tmp 15), _, _, _, _⟩) rfl (.tmp 6) (.tmp 15) 62 rfl 5 Tryz.sizeOf62 _ ?_ ?_ vs ?_ hvl.out hvo.out ?_); rfl; rfl; rfl)
          | ((with_reducible refine wp_loadAgg (o := ⟨some 17, _, _, _, _, _⟩) rfl (.tmp 6) 62 rfl 5 Tryz.isAgg62 Tryz.sizeOf62 wr.heap.size 0 ?_ vs hvl.out C2.out ?_); rfl))
        refine FN.out.mono ?_
        rintro e w3 ⟨rfl, b3⟩
        have HB4 := Lib.hid (HR.out.trans (b3.mono HR.out.size))
        clear b3
        cases hsm : f ds with
        | true =>
          have HE := Lib.hid (all_take_succ HX.out HT.out hsm)
          clear hsm
          go_wp2_with fail
          go_roundw
          case rel => exact ⟨k + 1, by omega, by go_num, HE.out, HB4.out⟩
          case measure => simp [intOf]; omega
        | false =>
          have HE := Lib.hid (okAll_bad HX.out hsm)
          clear hsm
          go_wp2_with fail
          go_ret
          exact ⟨by rw [HE.out]; rfl, HB4.out⟩
      · obtain rfl : k = len := by omega
        have HE := Lib.hid (okAll_good (l := l) (f := f) (by rw [HL.out]; omega) (by rw [HL.out]; exact HT.out))
        go_wp2_with fail
        go_ret
        exact ⟨by rw [HE.out]; rfl, HB.out⟩
end Go.Proofs.YtciijpahjjoppaaGreat
end
section
namespace Go.Proofs.YtciijpahjjoppaaGreat
open Go.RowKit Go.Deep
set_option maxRecDepth 100000 in
set_option maxHeartbeats 1000000 in
theorem allV_any (w0 : World) (g : Nat) (c : Value) (f : List D → Bool) (a : Option Addr) (len cap : Nat) (l : List (List D)) (hA : At w0 (.slice a len cap) (.row l)) (hs : ∀ x ∈ l, ShV x) (hf : OkFn w0 g c l f) (eg : ∀ args w, (callFunc g args).run Tryz.prog w = .ok (.enter g args) w) (W : World) (hW : Below w0.heap.size w0 W) :
    Calls Tryz.prog 71 #[.slice a len cap, .func (.func g) #[c] #[]] W fun e W' => e = .returned (.bool (okAll l f)) ∧ Below W.heap.size W W' := by
  have HA := Lib.hid hA
  have HS := Lib.hid hs
  have HF := Lib.hid hf
  have HW := Lib.hid hW
  have hle := hA.len_le
  have HL := Lib.hid hA.len_eq.1
  clear hA hs hf hW
  by_cases hbig : 512 < len
  · have hd : decide ((512 : Int) < (len : Int)) = true := by simp; omega
    have HO := Lib.hid (okAll_long (f := f) (show 512 < l.length by rw [HL.out]; exact hbig))
    go_enter Tryz.func71, Tryz.ntmps71
    go_wp2_with fail
    go_ret
    exact ⟨by rw [HO.out]; rfl, Below.refl _ _⟩
  · have hd : decide ((512 : Int) < (len : Int)) = false := by simp; omega
    go_enter Tryz.func71, Tryz.ntmps71
    go_wp2_with fail
    go_loopw [12] (fun i wr => ∃ k : Nat, k ≤ len ∧ i = .int .i64 k ∧ (l.take k).all f = true ∧ Below W.heap.size W wr) (fun i _ => len - (intOf i).toNat)
    case atStart => exact ⟨0, Nat.zero_le _, rfl, rfl, Below.refl _ _⟩
    case round =>
      obtain ⟨k, hk, rfl, ht, hb⟩ := hrel
      have HT := Lib.hid ht
      have HB := Lib.hid hb
      clear ht hb
      by_cases hlt : k < len
      · obtain ⟨b, o, vs, ds, rfl, hbl, hx, hv, hc⟩ := HA.out.elem hlt
        have hfn := HF.out ds (List.mem_of_getElem? hx) vs hv
        have hdl : ds.length = 6 := (HS.out _ (List.mem_of_getElem? hx)).ln
        rw [hdl] at hc
        have hvl := Lib.hid (hv.len.trans hdl)
        have hvo := Lib.hid hv.one
        clear hdl hv
        have B0 := HW.out.trans (HB.out.mono HW.out.size)
        have hbw : b < wr.heap.size := Nat.lt_of_lt_of_le hbl B0.size
        have C0 := Lib.hid (show ∀ j v, vs[j]? = some v → wr.cell? ⟨b, o + k * 6 + j, none⟩ = some v from fun j v hv => (B0.cell (p := ⟨b, o + k * 6 + j, none⟩) hbl).trans (hc j v hv))
        have N1 := (Below.refl wr.heap.size wr).alloc (Nat.le_refl _) (.cells ⟨vs⟩ 75)
        have C2 := Lib.hid (show ∀ j v, vs[j]? = some v → (wr.alloc (.cells ⟨vs⟩ 75)).cell? ⟨wr.heap.size, 0 + j, none⟩ = some v from fun j v hv => by
          rw [box_cells (heap_new wr (.cells ⟨vs⟩ 75))]
          simpa using hv)
        have FN := Lib.hid (hfn _ (B0.trans (N1.mono B0.size)))
        have HR := Lib.hid (HB.out.trans (N1.mono HB.out.size))
        have HX := Lib.hid hx
        clear hfn hx B0 hc N1
        go_wp2_with (first
          | ((with_reducible refine wp_loadAgg (o := ⟨some 15, _, _, _, _, _⟩) rfl (.tmp 14) 75 rfl 6 Tryz.isAgg75 Tryz.sizeOf75 b (o + k * 6) ?_ vs hvl.out C0.out ?_); rfl)
          | ((with_reducible refine wp_storeNew (o := ⟨none, .store 75 (.tmp 6) (.tmp 15), _, _, _, _⟩) rfl (.tmp 6) (.tmp 15) 75 rfl 6 Tryz.sizeOf75 _ ?_ ?_ vs ?_ hvl.out hvo.out ?_); rfl; rfl; rfl)
          | ((with_reducible refine wp_loadAgg (o := ⟨some 17, _, _, _, _, _⟩) rfl (.tmp 6) 75 rfl 6 Tryz.isAgg75 Tryz.sizeOf75 wr.heap.size 0 ?_ vs hvl.out C2.out ?_); rfl))
        refine FN.out.mono ?_
        rintro e w3 ⟨rfl, b3⟩
        have HB4 := Lib.hid (HR.out.trans (b3.mono HR.out.size))
        clear b3
        cases hsm : f ds with
        | true =>
          have HE := Lib.hid (all_take_succ HX.out HT.out hsm)
          clear hsm
          go_wp2_with fail
          go_roundw
          case rel => exact ⟨k + 1, by omega, by go_num, HE.out, HB4.out⟩
          case measure => simp [intOf]; omega
        | false =>
          have HE := Lib.hid (okAll_bad HX.out hsm)
          clear hsm
          go_wp2_with fail
          go_ret
          exact ⟨by rw [HE.out]; rfl, HB4.out⟩
      · obtain rfl : k = len := by omega
        have HE := Lib.hid (okAll_good (l := l) (f := f) (by rw [HL.out]; omega) (by rw [HL.out]; exact HT.out))
        go_wp2_with fail
        go_ret
        exact ⟨by rw [HE.out]; rfl, HB.out⟩
end Go.Proofs.YtciijpahjjoppaaGreat
end
section
namespace Go.Proofs.YtciijpahjjoppaaGreat
open Go.RowKit Go.Deep Go.Maps

def okRs (f : List D → Bool) (l : List (List D)) : Bool := okAll l f && uniq [] (nmsR l)
set_option maxRecDepth 100000 in
set_option maxHeartbeats 4000000 in
theorem routines_any (w0 : World) (d ar : Int) (f : List D → Bool) (a : Option Addr) (l : List (List D)) (cap : Nat) (hA : At w0 (.slice a l.length cap) (.row l)) (hs : ∀ x ∈ l, ShR x) (hf : OkFn w0 110 (.agg #[.int .i64 d, .int .i64 ar]) l f) (w : World) (hW : Below w0.heap.size w0 w) :
    Calls Tryz.prog 73 #[.agg #[.int .i64 d, .int .i64 ar], .slice a l.length cap] w fun e w' => e = .returned (.bool (okRs f l)) ∧ Below w.heap.size w w' := by
  have S0 := Lib.hid (Bx1.start w (.cells #[.int .i64 d, .int .i64 ar] 51))
  have HW := Lib.hid hW
  have HAL := Lib.hid (fun (W : World) (hW : Below w0.heap.size w0 W) => allR_any w0 110 (.agg #[.int .i64 d, .int .i64 ar]) f a l.length cap l hA hs hf (enters_of Tryz.func110 (by kernel_rfl) rfl) W hW)
  have HOW := Lib.hid (fun (h : l.length ≤ 512) (W : World) (hW : Below w0.heap.size w0 W) => haveOwn_any w0 a l.length cap l hA hs h W hW)
  have HO := Lib.hid (show okRs f l = (okAll l f && uniq [] (nmsR l)) from rfl)
  clear hA hs hf hW
  go_enter Tryz.func73, Tryz.ntmps73
  go_wp2_with fail
  refine (HAL.out _ (S0.out.on HW.out)).mono ?_
  rintro e w1 ⟨rfl, b1⟩
  have S1 := Lib.hid (S0.out.step b1)
  clear b1
  cases h1 : okAll l f with
  | false =>
    rw [h1] at HO
    clear h1
    go_wp2_with fail
    go_ret
    exact ⟨by rw [HO.out]; rfl, S1.out.bel⟩
  | true =>
    have hl5 : l.length ≤ 512 := by
      unfold okAll at h1
      rw [Bool.and_eq_true] at h1
      exact of_decide_eq_true h1.1
    rw [h1] at HO
    clear h1
    go_wp2_with fail
    refine (HOW.out hl5 _ (S1.out.on HW.out)).mono ?_
    rintro e w2 ⟨rfl, b2⟩
    have S2 := Lib.hid (S1.out.step b2)
    clear b2
    generalize uniq [] (nmsR l) = r at *
    go_wp2_with fail
    go_ret
    exact ⟨by rw [HO.out]; rfl, S2.out.bel⟩
def okGx (d : Int) (fR fS : List D → Bool) : List D → Bool
  | [.str nm, .row be, .row mi, .row af, .row rc, .row vr, .row rt, .row bd, .row en] => okName d nm && ((okNs be && (okNs mi && (okNs af && okNs en))) && (okAll rc (okC d) && (okAll vr (okV d) && (okRs fR rt && okAll bd fS))))
  | _ => false
set_option maxRecDepth 100000 in
set_option maxHeartbeats 4000000 in
theorem program_step (w0 : World) (d ar : Int) (hd : d = 0 ∨ d = 1) (nm : ByteArray) (be mi af rc vr rt bd en : List (List D)) (bea : Option Addr) (bec : Nat) (mia : Option Addr) (mic : Nat) (afa : Option Addr) (afc : Nat) (rca : Option Addr) (rcc : Nat) (vra : Option Addr) (vrc : Nat) (rta : Option Addr) (rtc : Nat) (bda : Option Addr) (bdc : Nat) (ena : Option Addr) (enc : Nat) (i0 : nm.size ≤ maxLen)
    (a_be : At w0 (.slice bea be.length bec) (.row be)) (t_be : ∀ y ∈ be, ShT y) (a_mi : At w0 (.slice mia mi.length mic) (.row mi)) (t_mi : ∀ y ∈ mi, ShT y) (a_af : At w0 (.slice afa af.length afc) (.row af)) (t_af : ∀ y ∈ af, ShT y) (a_rc : At w0 (.slice rca rc.length rcc) (.row rc)) (t_rc : ∀ y ∈ rc, ShC y) (a_vr : At w0 (.slice vra vr.length vrc) (.row vr)) (t_vr : ∀ y ∈ vr, ShV y) (a_rt : At w0 (.slice rta rt.length rtc) (.row rt)) (t_rt : ∀ y ∈ rt, ShR y) (a_bd : At w0 (.slice bda bd.length bdc) (.row bd)) (t_bd : ∀ y ∈ bd, ShS y) (a_en : At w0 (.slice ena en.length enc) (.row en)) (t_en : ∀ y ∈ en, ShT y) (fR fS : List D → Bool) (hR : OkFn w0 110 (.agg #[.int .i64 d, .int .i64 ar]) rt fR) (hS : OkFn w0 75 (.agg #[.int .i64 d, .int .i64 ar]) bd fS) (w : World) (hW : Below w0.heap.size w0 w) :
    Calls Tryz.prog 28 #[.agg #[.int .i64 d, .int .i64 ar], .agg #[.string nm, .slice bea be.length bec, .slice mia mi.length mic, .slice afa af.length afc, .slice rca rc.length rcc, .slice vra vr.length vrc, .slice rta rt.length rtc, .slice bda bd.length bdc, .slice ena en.length enc]] w fun e w' => e = .returned (.bool (okGx d fR fS [.str nm, .row be, .row mi, .row af, .row rc, .row vr, .row rt, .row bd, .row en])) ∧ Below w.heap.size w w' := by
  have H_C := Lib.hid (fun (W : World) (hW : Below w0.heap.size w0 W) => allC_any w0 70 (.agg #[.int .i64 d, .int .i64 ar]) (okC d) rca rc.length rcc rc a_rc t_rc (fun y hy us hu U hU => record_any w0 d ar hd y us (t_rc y hy) hu U hU) (enters_of Tryz.func70 (by kernel_rfl) rfl) W hW)
  have H_V := Lib.hid (fun (W : World) (hW : Below w0.heap.size w0 W) => allV_any w0 72 (.agg #[.int .i64 d, .int .i64 ar]) (okV d) vra vr.length vrc vr a_vr t_vr (fun y hy us hu U hU => variable_any w0 d ar hd y us (t_vr y hy) hu U hU) (enters_of Tryz.func72 (by kernel_rfl) rfl) W hW)
  have H_R := Lib.hid (fun (W : World) (hW : Below w0.heap.size w0 W) => routines_any w0 d ar fR rta rt rtc a_rt t_rt hR W hW)
  have H_S := Lib.hid (fun (W : World) (hW : Below w0.heap.size w0 W) => allS_any w0 75 (.agg #[.int .i64 d, .int .i64 ar]) fS bda bd.length bdc bd a_bd t_bd hS (enters_of Tryz.func75 (by kernel_rfl) rfl) W hW)
  have H_N := Lib.hid (fun (b T : Nat) (W : World) (hW : Below w0.heap.size w0 W) (hb : W.heap[b]? = some (.cells #[.slice bea be.length bec, .slice mia mi.length mic, .slice afa af.length afc, .slice ena en.length enc] T)) => notes4_any w0 d ar hd be mi af en bea bec mia mic afa afc ena enc a_be a_mi a_af a_en t_be t_mi t_af t_en b T W hW hb)
  have HW := Lib.hid hW
  have S0 := Lib.hid (Bx2.start w (.cells #[.int .i64 d, .int .i64 ar] 51) (.cells #[.string nm, .slice bea be.length bec, .slice mia mi.length mic, .slice afa af.length afc, .slice rca rc.length rcc, .slice vra vr.length vrc, .slice rta rt.length rtc, .slice bda bd.length bdc, .slice ena en.length enc] 35))
  have HO := Lib.hid (show okGx d fR fS [.str nm, .row be, .row mi, .row af, .row rc, .row vr, .row rt, .row bd, .row en] = (okName d nm && ((okNs be && (okNs mi && (okNs af && okNs en))) && (okAll rc (okC d) && (okAll vr (okV d) && (okRs fR rt && okAll bd fS))))) from rfl)
  clear hW hR hS a_be t_be a_mi t_mi a_af t_af a_rc t_rc a_vr t_vr a_rt t_rt a_bd t_bd a_en t_en
  go_enter Tryz.func28, Tryz.ntmps28
  go_wp2_with fail
  refine (cname_any d ar nm _ i0).mono ?_
  rintro e w1 ⟨rfl, b1⟩
  have S1 := Lib.hid (S0.out.step b1)
  clear b1
  have cA := box_cells S1.out.a
  have cB := box_cells S1.out.b
  cases h1 : okName d nm with
  | false =>
    have H1 := Lib.hid h1
    clear h1
    go_wp2_with fail
    go_ret
    exact ⟨by rw [HO.out, H1.out]; rfl, S1.out.bel⟩
  | true =>
  have H1 := Lib.hid h1
  clear h1
  go_wp2_with fail
  refine (H_N.out _ 29 _ ((S1.out.step ((Below.refl _ _).alloc (Nat.le_refl _) (.cells #[.slice bea be.length bec, .slice mia mi.length mic, .slice afa af.length afc, .slice ena en.length enc] 29))).on HW.out) (heap_new _ _)).mono ?_
  rintro e w2 ⟨rfl, b2⟩
  have S2 := Lib.hid ((S1.out.step ((Below.refl _ _).alloc (Nat.le_refl _) (.cells #[.slice bea be.length bec, .slice mia mi.length mic, .slice afa af.length afc, .slice ena en.length enc] 29))).step b2)
  clear b2 cA cB
  have cA := box_cells S2.out.a
  have cB := box_cells S2.out.b
  cases h2 : (okNs be && (okNs mi && (okNs af && okNs en))) with
  | false =>
    have H2 := Lib.hid h2
    clear h2
    go_wp2_with fail
    go_ret
    exact ⟨by rw [HO.out, H1.out, H2.out]; rfl, S2.out.bel⟩
  | true =>
  have H2 := Lib.hid h2
  clear h2
  go_wp2_with fail
  refine (H_C.out _ (S2.out.on HW.out)).mono ?_
  rintro e w3 ⟨rfl, b3⟩
  have S3 := Lib.hid (S2.out.step b3)
  clear b3 cA cB
  have cA := box_cells S3.out.a
  have cB := box_cells S3.out.b
  cases h3 : okAll rc (okC d) with
  | false =>
    have H3 := Lib.hid h3
    clear h3
    go_wp2_with fail
    go_ret
    exact ⟨by rw [HO.out, H1.out, H2.out, H3.out]; rfl, S3.out.bel⟩
  | true =>
  have H3 := Lib.hid h3
  clear h3
  go_wp2_with fail
  refine (H_V.out _ (S3.out.on HW.out)).mono ?_
  rintro e w4 ⟨rfl, b4⟩
  have S4 := Lib.hid (S3.out.step b4)
  clear b4 cA cB
  have cA := box_cells S4.out.a
  have cB := box_cells S4.out.b
  cases h4 : okAll vr (okV d) with
  | false =>
    have H4 := Lib.hid h4
    clear h4
    go_wp2_with fail
    go_ret
    exact ⟨by rw [HO.out, H1.out, H2.out, H3.out, H4.out]; rfl, S4.out.bel⟩
  | true =>
  have H4 := Lib.hid h4
  clear h4
  go_wp2_with fail
  refine (H_R.out _ (S4.out.on HW.out)).mono ?_
  rintro e w5 ⟨rfl, b5⟩
  have S5 := Lib.hid (S4.out.step b5)
  clear b5 cA cB
  have cA := box_cells S5.out.a
  have cB := box_cells S5.out.b
  cases h5 : okRs fR rt with
  | false =>
    have H5 := Lib.hid h5
    clear h5
    go_wp2_with fail
    go_ret
    exact ⟨by rw [HO.out, H1.out, H2.out, H3.out, H4.out, H5.out]; rfl, S5.out.bel⟩
  | true =>
  have H5 := Lib.hid h5
  clear h5
  go_wp2_with fail
  refine (H_S.out _ (S5.out.on HW.out)).mono ?_
  rintro e w6 ⟨rfl, b6⟩
  have S6 := Lib.hid (S5.out.step b6)
  clear b6 cA cB
  have cA := box_cells S6.out.a
  have cB := box_cells S6.out.b
  cases h6 : okAll bd fS with
  | false =>
    have H6 := Lib.hid h6
    clear h6
    go_wp2_with fail
    go_ret
    exact ⟨by rw [HO.out, H1.out, H2.out, H3.out, H4.out, H5.out, H6.out]; rfl, S6.out.bel⟩
  | true =>
  have H6 := Lib.hid h6
  clear h6
  go_wp2_with fail
  go_ret
  exact ⟨by rw [HO.out, H1.out, H2.out, H3.out, H4.out, H5.out, H6.out]; rfl, S6.out.bel⟩
end Go.Proofs.YtciijpahjjoppaaGreat
end
section
namespace Go.Proofs.YtciijpahjjoppaaGreat
open Go.RowKit Go.Deep
set_option maxRecDepth 100000 in
set_option maxHeartbeats 1000000 in
theorem allP_any (w0 : World) (g : Nat) (c : Value) (f : List D → Bool) (a : Option Addr) (len cap : Nat) (l : List (List D)) (hA : At w0 (.slice a len cap) (.row l)) (hs : ∀ x ∈ l, ShP x) (hf : OkFn w0 g c l f) (eg : ∀ args w, (callFunc g args).run Tryz.prog w = .ok (.enter g args) w) (W : World) (hW : Below w0.heap.size w0 W) :
    Calls Tryz.prog 137 #[.slice a len cap, .func (.func g) #[c] #[]] W fun e W' => e = .returned (.bool (okAll l f)) ∧ Below W.heap.size W W' := by
  have HA := Lib.hid hA
  have HS := Lib.hid hs
  have HF := Lib.hid hf
  have HW := Lib.hid hW
  have hle := hA.len_le
  have HL := Lib.hid hA.len_eq.1
  clear hA hs hf hW
  by_cases hbig : 512 < len
  · have hd : decide ((512 : Int) < (len : Int)) = true := by simp; omega
    have HO := Lib.hid (okAll_long (f := f) (show 512 < l.length by rw [HL.out]; exact hbig))
    go_enter Tryz.func137, Tryz.ntmps137
    go_wp2_with fail
    go_ret
    exact ⟨by rw [HO.out]; rfl, Below.refl _ _⟩
  · have hd : decide ((512 : Int) < (len : Int)) = false := by simp; omega
    go_enter Tryz.func137, Tryz.ntmps137
    go_wp2_with fail
    go_loopw [12] (fun i wr => ∃ k : Nat, k ≤ len ∧ i = .int .i64 k ∧ (l.take k).all f = true ∧ Below W.heap.size W wr) (fun i _ => len - (intOf i).toNat)
    case atStart => exact ⟨0, Nat.zero_le _, rfl, rfl, Below.refl _ _⟩
    case round =>
      obtain ⟨k, hk, rfl, ht, hb⟩ := hrel
      have HT := Lib.hid ht
      have HB := Lib.hid hb
      clear ht hb
      by_cases hlt : k < len
      · obtain ⟨b, o, vs, ds, rfl, hbl, hx, hv, hc⟩ := HA.out.elem hlt
        have hfn := HF.out ds (List.mem_of_getElem? hx) vs hv
        have hdl : ds.length = 5 := (HS.out _ (List.mem_of_getElem? hx)).ln
        rw [hdl] at hc
        have hvl := Lib.hid (hv.len.trans hdl)
        have hvo := Lib.hid hv.one
        clear hdl hv
        have B0 := HW.out.trans (HB.out.mono HW.out.size)
        have hbw : b < wr.heap.size := Nat.lt_of_lt_of_le hbl B0.size
        have C0 := Lib.hid (show ∀ j v, vs[j]? = some v → wr.cell? ⟨b, o + k * 5 + j, none⟩ = some v from fun j v hv => (B0.cell (p := ⟨b, o + k * 5 + j, none⟩) hbl).trans (hc j v hv))
        have N1 := (Below.refl wr.heap.size wr).alloc (Nat.le_refl _) (.cells ⟨vs⟩ 133)
        have C2 := Lib.hid (show ∀ j v, vs[j]? = some v → (wr.alloc (.cells ⟨vs⟩ 133)).cell? ⟨wr.heap.size, 0 + j, none⟩ = some v from fun j v hv => by
          rw [box_cells (heap_new wr (.cells ⟨vs⟩ 133))]
          simpa using hv)
        have FN := Lib.hid (hfn _ (B0.trans (N1.mono B0.size)))
        have HR := Lib.hid (HB.out.trans (N1.mono HB.out.size))
        have HX := Lib.hid hx
        clear hfn hx B0 hc N1
        go_wp2_with (first
          | ((with_reducible refine wp_loadAgg (o := ⟨some 15, _, _, _, _, _⟩) rfl (.tmp 14) 133 rfl 5 Tryz.isAgg133 Tryz.sizeOf133 b (o + k * 5) ?_ vs hvl.out C0.out ?_); rfl)
          | ((with_reducible refine wp_storeNew (o := ⟨none, .store 133 (.tmp 6) (.tmp 15), _, _, _, _⟩) rfl (.tmp 6) (.tmp 15) 133 rfl 5 Tryz.sizeOf133 _ ?_ ?_ vs ?_ hvl.out hvo.out ?_); rfl; rfl; rfl)
          | ((with_reducible refine wp_loadAgg (o := ⟨some 17, _, _, _, _, _⟩) rfl (.tmp 6) 133 rfl 5 Tryz.isAgg133 Tryz.sizeOf133 wr.heap.size 0 ?_ vs hvl.out C2.out ?_); rfl))
        refine FN.out.mono ?_
        rintro e w3 ⟨rfl, b3⟩
        have HB4 := Lib.hid (HR.out.trans (b3.mono HR.out.size))
        clear b3
        cases hsm : f ds with
        | true =>
          have HE := Lib.hid (all_take_succ HX.out HT.out hsm)
          clear hsm
          go_wp2_with fail
          go_roundw
          case rel => exact ⟨k + 1, by omega, by go_num, HE.out, HB4.out⟩
          case measure => simp [intOf]; omega
        | false =>
          have HE := Lib.hid (okAll_bad HX.out hsm)
          clear hsm
          go_wp2_with fail
          go_ret
          exact ⟨by rw [HE.out]; rfl, HB4.out⟩
      · obtain rfl : k = len := by omega
        have HE := Lib.hid (okAll_good (l := l) (f := f) (by rw [HL.out]; omega) (by rw [HL.out]; exact HT.out))
        go_wp2_with fail
        go_ret
        exact ⟨by rw [HE.out]; rfl, HB.out⟩
end Go.Proofs.YtciijpahjjoppaaGreat
end
section
namespace Go.Proofs.YtciijpahjjoppaaGreat
open Go.RowKit Go.Deep Go.Maps Go.Sort

def okRx (d : Int) (fR fS : List D → Bool) : List D → Bool
  | [.row m0, .row m1, .str nm, .int rs, .row ps, .row vr, .row inn, .row bd, .row en] => (((okNs m0 && okNs m1) && okR d nm) && ((rs == 0) || wthn rs 1 3)) && (okAll ps (okP d) && (upsL false ps && (okAll vr (okV d) && (((d == 0) || (inn.length == 0)) && (okRs fR inn && (okAll bd fS && okNs en))))))
  | _ => false
/-- What checker.routine answers; k: how many may yet stand within. -/
noncomputable def okRt (d : Int) : Nat → List D → Bool
  | 0, _ => false
  | k + 1, x => okRx d (okRt d k) (okS d 48) x
theorem routine_step (w0 : World) (d : Int) (hd : d = 0 ∨ d = 1) (ar : Nat) (td : Bool) (htd : decide ((48 : Int) ≤ (ar : Int)) = td) (x : List D) (vs : List Value) (hx : ShR x) (hv : AllAt w0 vs x) (fR : List D → Bool) (har : ar < 50000)
    (hf : ∀ l, D.row l ∈ x → (∀ z ∈ l, ShR z) → OkFn w0 110 (.agg #[.int .i64 d, .int .i64 ((ar + 1 : Nat) : Int)]) l fR) (w : World) (hW : Below w0.heap.size w0 w) :
    Calls Tryz.prog 110 #[.agg #[.int .i64 d, .int .i64 ar], .agg ⟨vs⟩] w fun e w' => e = .returned (.bool (!td && okRx d fR (okS d 48) x)) ∧ Below w.heap.size w w' := by
  obtain ⟨m0, m1, nm, rs, ps, vr, inn, bd, en, m0a, m0c, m1a, m1c, psa, psc, vra, vrc, ina, inc, bda, bdc, ena, enc, rfl, rfl, a_m0, a_m1, i_nm, _, a_ps, a_vr, a_in, a_bd, a_en, t_m0, t_m1, t_ps, t_vr, t_in, t_bd, t_en⟩ := hv.openR hx
  have td0 := tooDeep_says w0 d ar
  rw [htd] at td0
  have q1 : Says w0 105 _ _ := fun W hW => marks_any w0 d ar hd m0 m1 m0a m0c m1a m1c a_m0 a_m1 t_m0 t_m1 W hW
  have q2 : Says w0 98 _ _ := fun W _ => rname_any d ar nm W i_nm
  have q3 : Says w0 136 _ _ := fun W _ => (isScalar_any rs W).mono fun e w' ⟨he, hw⟩ => ⟨he, below_same hw⟩
  have q4 : Says w0 137 _ _ := fun W hW => allP_any w0 138 (.agg #[.int .i64 d, .int .i64 ar]) (okP d) psa ps.length psc ps a_ps t_ps (fun y hy us hu U hU => param_any w0 d ar y us (t_ps y hy) hu U hU) (enters_of Tryz.func138 (by kernel_rfl) rfl) W hW
  have q5 : Says w0 139 _ _ := fun W hW => upsAreLast_any w0 psa ps.length psc ps a_ps t_ps W hW
  have q6 : Says w0 71 _ _ := fun W hW => allV_any w0 72 (.agg #[.int .i64 d, .int .i64 ar]) (okV d) vra vr.length vrc vr a_vr t_vr (fun y hy us hu U hU => variable_any w0 d ar hd y us (t_vr y hy) hu U hU) (enters_of Tryz.func72 (by kernel_rfl) rfl) W hW
  have q7 : Says w0 65 _ _ := fun W _ => deeper_any d ar W (by omega)
  have q8 : Says w0 73 _ _ := fun W hW => routines_any w0 d ((ar + 1 : Nat) : Int) fR ina inn inc a_in t_in (hf inn (by simp) t_in) W hW
  have q9 : Says w0 114 _ _ := fun W _ => outermost_any d ar W
  have q10 : Says w0 74 _ _ := fun W hW => allS_any w0 75 (.agg #[.int .i64 d, .int .i64 0]) (okS d 48) bda bd.length bdc bd a_bd t_bd (fun y hy us hu U hU => stmt_any w0 d hd 48 0 rfl y us (t_bd y hy) hu U hU) (enters_of Tryz.func75 (by kernel_rfl) rfl) W hW
  have q11 := fun (b T : Nat) (W : World) (hW : Below w0.heap.size w0 W) (hb : W.heap[b]? = some (.cells #[.slice ena en.length enc] T)) => notes1_any w0 d ar hd en ena enc a_en t_en b T W hW hb
  rw [show okRx d fR (okS d 48) [.row m0, .row m1, .str nm, .int rs, .row ps, .row vr, .row inn, .row bd, .row en] = ((((okNs m0 && okNs m1) && okR d nm) && ((rs == 0) || wthn rs 1 3)) && (okAll ps (okP d) && (upsL false ps && (okAll vr (okV d) && (((d == 0) || (inn.length == 0)) && (okRs fR inn && (okAll bd (okS d 48) && okNs en))))))) from rfl]
  generalize (okNs m0 && okNs m1) = b1 at *
  generalize okR d nm = b2 at *
  generalize wthn rs 1 3 = b3 at *
  generalize okAll ps (okP d) = b4 at *
  generalize upsL false ps = b5 at *
  generalize okAll vr (okV d) = b6 at *
  generalize okRs fR inn = b7 at *
  generalize okAll bd (okS d 48) = b8 at *
  generalize okNs en = b9 at *
  have early : ((!td && (b1 && b2)) && b3) = false → ((!td && (b1 && b2)) = true → (rs == 0) = false) → (!td && ((((b1) && b2) && ((rs == 0) || b3)) && (b4 && (b5 && (b6 && (((d == 0) || (inn.length == 0)) && (b7 && (b8 && b9)))))))) = false → _ := fun h1 h2 h3 => by
    have h := rt_a w0 d ar m0 m1 nm rs ps vr inn bd en m0a m0c m1a m1c psa psc vra vrc ina inc bda bdc ena enc td b1 b2 b3 b4 b5 b6 b7 b8 td0 q1 q2 q3 q4 q5 q6 q7 q8 q9 q10 h1 h2 w hW
    rw [← h3] at h
    exact h
  cases h12 : (!td && (b1 && b2)) with
  | false =>
    refine early (by rw [h12]; rfl) (fun h => by rw [h12] at h; cases h) ?_
    cases td <;> cases b1 <;> cases b2 <;> first | rfl | cases h12
  | true =>
    obtain ⟨rfl, rfl, rfl⟩ : td = false ∧ b1 = true ∧ b2 = true := by cases td <;> cases b1 <;> cases b2 <;> first | exact ⟨rfl, rfl, rfl⟩ | cases h12
    cases hz : rs == 0 with
    | true =>
      simp only [Bool.true_or, Bool.and_true, Bool.true_and, Bool.not_false]
      cases hne : (b4 && (b5 && (b6 && (((d == 0) || (inn.length == 0)) && (b7 && b8))))) with
      | false =>
        have h := rt_b1 w0 d ar m0 m1 nm rs ps vr inn bd en m0a m0c m1a m1c psa psc vra vrc ina inc bda bdc ena enc b3 b4 b5 b6 b7 b8 td0 q1 q2 q3 q4 q5 q6 q7 q8 q9 q10 hd hz trivial hne w hW
        rw [show (b4 && (b5 && (b6 && (((d == 0) || (inn.length == 0)) && (b7 && (b8 && b9)))))) = ((b4 && (b5 && (b6 && (((d == 0) || (inn.length == 0)) && (b7 && b8))))) && b9) by simp only [Bool.and_assoc], hne]
        exact h
      | true =>
        simp only [Bool.and_eq_true] at hne
        obtain ⟨rfl, rfl, rfl, hdi, rfl, rfl⟩ := hne
        rw [hdi]
        simp only [Bool.true_and]
        rcases hd with rfl | rfl
        · exact rt_10 w0 ar m0 m1 nm rs ps vr inn bd en m0a m0c m1a m1c psa psc vra vrc ina inc bda bdc ena enc b3 b9 td0 q1 q2 q3 q4 q5 q6 q7 q8 q9 q10 q11 hz w hW
        · exact rt_11 w0 ar m0 m1 nm rs ps vr inn bd en m0a m0c m1a m1c psa psc vra vrc ina inc bda bdc ena enc b3 b9 td0 q1 q2 q3 q4 q5 q6 q7 q8 q9 q10 q11 hz (by simpa using hdi) w hW
    | false =>
      cases b3 with
      | false =>
        have h := early rfl (fun _ => hz) (by rw [hz]; rfl)
        rw [hz] at h
        exact h
      | true =>
        simp only [Bool.or_true, Bool.and_true, Bool.true_and, Bool.not_false]
        cases hne : (b4 && (b5 && (b6 && (((d == 0) || (inn.length == 0)) && (b7 && b8))))) with
        | false =>
          have h := rt_b0 w0 d ar m0 m1 nm rs ps vr inn bd en m0a m0c m1a m1c psa psc vra vrc ina inc bda bdc ena enc b4 b5 b6 b7 b8 td0 q1 q2 q3 q4 q5 q6 q7 q8 q9 q10 hd hz trivial hne w hW
          rw [show (b4 && (b5 && (b6 && (((d == 0) || (inn.length == 0)) && (b7 && (b8 && b9)))))) = ((b4 && (b5 && (b6 && (((d == 0) || (inn.length == 0)) && (b7 && b8))))) && b9) by simp only [Bool.and_assoc], hne]
          exact h
        | true =>
          simp only [Bool.and_eq_true] at hne
          obtain ⟨rfl, rfl, rfl, hdi, rfl, rfl⟩ := hne
          rw [hdi]
          simp only [Bool.true_and]
          rcases hd with rfl | rfl
          · exact rt_00 w0 ar m0 m1 nm rs ps vr inn bd en m0a m0c m1a m1c psa psc vra vrc ina inc bda bdc ena enc b9 td0 q1 q2 q3 q4 q5 q6 q7 q8 q9 q10 q11 hz w hW
          · exact rt_01 w0 ar m0 m1 nm rs ps vr inn bd en m0a m0c m1a m1c psa psc vra vrc ina inc bda bdc ena enc b9 td0 q1 q2 q3 q4 q5 q6 q7 q8 q9 q10 q11 hz (by simpa using hdi) w hW
theorem routine_deep (w0 : World) (d : Int) (ar : Nat) (h48 : 48 ≤ ar) (x : List D) (vs : List Value) (hx : ShR x) (hv : AllAt w0 vs x) (W : World) (hW : Below w0.heap.size w0 W) :
    Calls Tryz.prog 110 #[.agg #[.int .i64 d, .int .i64 ar], .agg ⟨vs⟩] W fun e W' => e = .returned (.bool false) ∧ Below W.heap.size W W' := by
  obtain ⟨m0, m1, nm, rs, ps, vr, inn, bd, en, m0a, m0c, m1a, m1c, psa, psc, vra, vrc, ina, inc, bda, bdc, ena, enc, rfl, rfl, _⟩ := hv.openR hx
  have td0 := tooDeep_says w0 d ar
  rw [show decide ((48 : Int) ≤ (ar : Int)) = true by simp; omega] at td0
  exact rt_deep w0 d ar m0 m1 nm rs ps vr inn bd en m0a m0c m1a m1c psa psc vra vrc ina inc bda bdc ena enc td0 W hW
theorem routine_any (w0 : World) (d : Int) (hd : d = 0 ∨ d = 1) : ∀ (k ar : Nat), ar + k = 48 → ∀ (x : List D) (vs : List Value), ShR x → AllAt w0 vs x → ∀ W, Below w0.heap.size w0 W →
    Calls Tryz.prog 110 #[.agg #[.int .i64 d, .int .i64 ar], .agg ⟨vs⟩] W fun e W' => e = .returned (.bool (okRt d k x)) ∧ Below W.heap.size W W'
  | 0, ar, hk, x, vs, hx, hv, W, hW => by
    have h := routine_step w0 d hd ar true (by simp; omega) x vs hx hv (fun _ => false) (by omega) (fun l hl hs y hy us hu U hU => ?_) W hW
    · exact h
    · exact (routine_deep w0 d (ar + 1) (by omega) y us (hs y hy) hu U hU)
  | k + 1, ar, hk, x, vs, hx, hv, W, hW => by
    have h := routine_step w0 d hd ar false (by simp; omega) x vs hx hv (okRt d k) (by omega) (fun l _ hs y hy us hu U hU => routine_any w0 d hd k (ar + 1) (by omega) y us (hs y hy) hu U hU) W hW
    exact h
end Go.Proofs.YtciijpahjjoppaaGreat
end
section
namespace Go.Proofs.YtciijpahjjoppaaGreat
open Go.RowKit Go.Deep Go.Maps

set_option maxRecDepth 100000 in
set_option maxHeartbeats 8000000 in
theorem rst_1 (w0 : World) (d : Int) (dp : Nat) (hdp : dp ≤ 48) (m0 m1 : List (List D)) (nm : ByteArray) (pop pn : Int) (pnm pfd : ByteArray) (pl ex : List (List D)) (dn mo : Bool) (bd el en e2 : List (List D)) (m0a : Option Addr) (m0c : Nat) (m1a : Option Addr) (m1c : Nat) (pla : Option Addr) (plc : Nat) (exa : Option Addr) (exc : Nat) (bda : Option Addr) (bdc : Nat) (ela : Option Addr) (elc : Nat) (ena : Option Addr) (enc : Nat) (e2a : Option Addr) (e2c : Nat) (M EN E2 P NM BD EL R : Bool) (gx : List D → Bool)
    (q_m : Says w0 31 #[.agg #[.slice m0a m0.length m0c, .slice m1a m1.length m1c]] (.bool M)) (q_en : Says w0 30 #[.slice ena en.length enc] (.bool EN)) (q_e2 : Says w0 30 #[.slice e2a e2.length e2c] (.bool E2)) (q_p : Says w0 119 #[.int .i64 d, .agg #[.int .i64 pop, .int .i64 pn, .string pnm, .string pfd, .slice pla pl.length plc]] (.bool P)) (q_nm : Says w0 29 #[.int .i64 d, .string nm] (.bool NM))
    (q_bd : Says w0 34 #[.int .i64 d, .slice bda bd.length bdc, .int .i64 ((dp + 1 : Nat) : Int)] (.bool BD)) (q_el : Says w0 34 #[.int .i64 d, .slice ela el.length elc, .int .i64 ((dp + 1 : Nat) : Int)] (.bool EL))
    (q_x : ∀ x ∈ ex, ∀ vs, AllAt w0 vs x → Says w0 10 #[.int .i64 d, .agg ⟨vs⟩] (.bool (gx x))) (a_ex : At w0 (.slice exa ex.length exc) (.row ex)) (t_ex : ∀ x ∈ ex, ShE x)
    (hR : R = (M && (EN && (E2 && (wthn ex.length 1 1 && (ex.all gx && (P && ((nm.toList.isEmpty && !dn) && ((!mo && ((el.length == 0) && (e2.length == 0))) && (((bd.length == 0) && (en.length == 0)) && (BD && EL))))))))))) (w : World) (hW : Below w0.heap.size w0 w) :
    Calls Tryz.prog 81 #[.int .i64 d, .agg #[.slice m0a m0.length m0c, .slice m1a m1.length m1c, .int .i64 1, .string nm, .int .i64 pop, .int .i64 pn, .string pnm, .string pfd, .slice pla pl.length plc, .slice exa ex.length exc, .bool dn, .bool mo, .slice bda bd.length bdc, .slice ela el.length elc, .slice ena en.length enc, .slice e2a e2.length e2c], .int .i64 dp] w fun e w' => e = .returned (.bool R) ∧ Below w.heap.size w w' := by
  have K_m := Lib.hid q_m
  have K_en := Lib.hid q_en
  have K_e2 := Lib.hid q_e2
  have K_p := Lib.hid q_p
  have K_nm := Lib.hid q_nm
  have K_bd := Lib.hid q_bd
  have K_el := Lib.hid q_el
  have K_x := Lib.hid q_x
  have HA := Lib.hid a_ex
  have HS := Lib.hid t_ex
  have HW := Lib.hid hW
  have HR := Lib.hid hR
  have hle := a_ex.len_le
  have S0 := Lib.hid (Bx1.start w (.cells #[.slice m0a m0.length m0c, .slice m1a m1.length m1c, .int .i64 1, .string nm, .int .i64 pop, .int .i64 pn, .string pnm, .string pfd, .slice pla pl.length plc, .slice exa ex.length exc, .bool dn, .bool mo, .slice bda bd.length bdc, .slice ela el.length elc, .slice ena en.length enc, .slice e2a e2.length e2c] 84))
  have hdp2 : decide ((48 : Int) < (dp : Int)) = false := by simp; omega
  clear q_m q_en q_e2 q_p q_nm q_bd q_el q_x a_ex t_ex hW hR
  go_enter Tryz.func81, Tryz.ntmps81
  go_wp2_with fail
  refine (K_m.out _ (S0.out.on HW.out)).mono ?_
  rintro e w1 ⟨rfl, b1⟩
  have S1 := Lib.hid (S0.out.step b1)
  clear b1
  have cA := box_cells S1.out.a
  cases M with
  | false =>
    go_wp2_with fail
    go_ret
    exact ⟨by rw [HR.out]; rfl, S1.out.bel⟩
  | true =>
  go_wp2_with fail
  refine (K_en.out _ (S1.out.on HW.out)).mono ?_
  rintro e w2 ⟨rfl, b2⟩
  have S2 := Lib.hid (S1.out.step b2)
  clear b2 cA
  have cA := box_cells S2.out.a
  cases EN with
  | false =>
    go_wp2_with fail
    go_ret
    exact ⟨by rw [HR.out]; rfl, S2.out.bel⟩
  | true =>
  go_wp2_with fail
  refine (K_e2.out _ (S2.out.on HW.out)).mono ?_
  rintro e w3 ⟨rfl, b3⟩
  have S3 := Lib.hid (S2.out.step b3)
  clear b3 cA
  have cA := box_cells S3.out.a
  cases E2 with
  | false =>
    go_wp2_with fail
    go_ret
    exact ⟨by rw [HR.out]; rfl, S3.out.bel⟩
  | true =>
  by_cases hlo : (ex.length : Int) < 1
  · have hl1 : decide ((ex.length : Int) < 1) = true := decide_eq_true hlo
    have hwt : wthn ex.length 1 1 = false := by unfold wthn; rw [decide_eq_false (show ¬ ((1 : Int) ≤ (ex.length : Int)) by omega), Bool.false_and]
    rw [hwt] at HR
    have hl2 : decide (ex.length < 1) = true := decide_eq_true (by omega)
    go_wp2_with fail
    go_ret
    exact ⟨by rw [HR.out]; rfl, S3.out.bel⟩
  by_cases hhi : (1 : Int) < ex.length
  · have hl1 : decide ((ex.length : Int) < 1) = false := decide_eq_false hlo
    have hl3 : decide ((1 : Int) < ex.length) = true := decide_eq_true hhi
    have hl2 : decide (ex.length < 1) = false := decide_eq_false (by omega)
    have hl4 : decide (1 < ex.length) = true := decide_eq_true (by omega)
    have hwt : wthn ex.length 1 1 = false := by unfold wthn; rw [decide_eq_false (show ¬ ((ex.length : Int) ≤ 1) by omega), Bool.and_false]
    rw [hwt] at HR
    go_wp2_with fail
    go_ret
    exact ⟨by rw [HR.out]; rfl, S3.out.bel⟩
  have hl1 : decide ((ex.length : Int) < 1) = false := decide_eq_false hlo
  have hl3 : decide ((1 : Int) < ex.length) = false := decide_eq_false hhi
  have hl2 : decide (ex.length < 1) = false := decide_eq_false (by omega)
  have hl4 : decide (1 < ex.length) = false := decide_eq_false (by omega)
  have hwt : wthn ex.length 1 1 = true := by unfold wthn; rw [decide_eq_true (show ((1 : Int) ≤ (ex.length : Int)) by omega), decide_eq_true (show ((ex.length : Int) ≤ 1) by omega)]; rfl
  rw [hwt] at HR; clear hwt
  go_wp2_with fail
  go_loopw [9] (fun i wr => ∃ k : Nat, k ≤ ex.length ∧ i = .int .i64 k ∧ Hid ((ex.take k).all gx = true) ∧ Hid (Bx1 w (.cells #[.slice m0a m0.length m0c, .slice m1a m1.length m1c, .int .i64 1, .string nm, .int .i64 pop, .int .i64 pn, .string pnm, .string pfd, .slice pla pl.length plc, .slice exa ex.length exc, .bool dn, .bool mo, .slice bda bd.length bdc, .slice ela el.length elc, .slice ena en.length enc, .slice e2a e2.length e2c] 84) wr)) (fun i _ => ex.length - (intOf i).toNat)
  case atStart => exact ⟨0, Nat.zero_le _, rfl, Lib.hid rfl, Lib.hid S3.out⟩
  case round =>
    obtain ⟨k, hk, rfl, HT, SW⟩ := hrel
    clear cA
    have cA := box_cells SW.out.a
    by_cases hlt : k < ex.length
    · obtain ⟨b, o, vs, ds, rfl, hbl, hx, hv, hc⟩ := HA.out.elem hlt
      have qx := Lib.hid (K_x.out ds (List.mem_of_getElem? hx) vs hv)
      obtain ⟨xop, xn, xnm, xfd, kl, kla, klc, hds, hvs, _⟩ := hv.openE (HS.out _ (List.mem_of_getElem? hx))
      subst hvs
      have hdl : ds.length = 5 := by rw [hds]; rfl
      rw [hdl] at hc
      have B0 := SW.out.on HW.out
      have hbw : b < wr.heap.size := Nat.lt_of_lt_of_le hbl B0.size
      have c0 := (B0.cell (p := ⟨b, o + k * 5, none⟩) hbl).trans (hc 0 _ rfl)
      have c1 := (B0.cell (p := ⟨b, o + k * 5 + 1, none⟩) hbl).trans (hc 1 _ rfl)
      have c2 := (B0.cell (p := ⟨b, o + k * 5 + 2, none⟩) hbl).trans (hc 2 _ rfl)
      have c3 := (B0.cell (p := ⟨b, o + k * 5 + 3, none⟩) hbl).trans (hc 3 _ rfl)
      have c4 := (B0.cell (p := ⟨b, o + k * 5 + 4, none⟩) hbl).trans (hc 4 _ rfl)
      have C0 := Lib.hid (hc 0 _ rfl)
      have HX := Lib.hid hx
      have HOP := Lib.hid (show opD ds = xop by rw [hds]; rfl)
      clear hx hds hdl hc B0 hv
      go_wp2_with fail
      refine (qx.out _ (SW.out.on HW.out)).mono ?_
      rintro e v1 ⟨rfl, bv⟩
      have SV := Lib.hid (SW.out.step bv)
      clear bv cA c0 c1 c2 c3 c4
      have cA := box_cells SV.out.a
      have B1 := SV.out.on HW.out
      have hbw1 : b < v1.heap.size := Nat.lt_of_lt_of_le hbl B1.size
      have c0 := (B1.cell (p := ⟨b, o + k * 5, none⟩) hbl).trans C0.out
      clear B1
      cases hg : gx ds with
      | false =>
        have hal : ex.all gx = false := by rw [List.all_eq_false]; exact ⟨ds, List.mem_of_getElem? HX.out, by simp [hg]⟩
        rw [hal] at HR; clear hg hal
        go_wp2_with fail
        go_ret
        exact ⟨by rw [HR.out]; rfl, SV.out.bel⟩
      | true =>
      have HE := Lib.hid (all_take_succ (f := gx) HX.out HT.out hg)
      clear hg
      go_wp2_with fail
      go_roundw
      case rel => exact ⟨k + 1, by omega, by go_num, HE, SV⟩
      case measure => simp [intOf]; omega
    · obtain rfl : k = ex.length := by omega
      have hal := HT.out
      rw [List.take_length] at hal
      rw [hal] at HR; clear hal
      have S4 := SW
      go_wp2_with fail
      refine (K_p.out _ (S4.out.on HW.out)).mono ?_
      rintro e w5 ⟨rfl, b5⟩
      have S5 := Lib.hid (S4.out.step b5)
      clear b5 cA
      have cA := box_cells S5.out.a
      cases P with
      | false =>
        go_wp2_with fail
        go_ret
        exact ⟨by rw [HR.out]; rfl, S5.out.bel⟩
      | true =>
      cases hnm : nm.toList.isEmpty with
      | false =>
        rw [hnm] at HR
        have hnm2 : (nm.toList == []) = false := by rw [← hnm]; cases nm.toList <;> rfl
        go_wp2_with fail
        go_ret
        exact ⟨by rw [HR.out]; rfl, S5.out.bel⟩
      | true =>
      rw [hnm] at HR
      have hnm2 : (nm.toList == []) = true := by rw [← hnm]; cases nm.toList <;> rfl
      cases dn with
      | true =>
        go_wp2_with fail
        go_ret
        exact ⟨by rw [HR.out]; rfl, S5.out.bel⟩
      | false =>
      cases mo with
      | true =>
        go_wp2_with fail
        go_ret
        exact ⟨by rw [HR.out]; rfl, S5.out.bel⟩
      | false =>
      by_cases gl : 0 < el.length
      · have hl : decide (0 < el.length) = true := decide_eq_true gl
        have xl : (el.length == 0) = false := by rw [beq_eq_false_iff_ne]; omega
        rw [xl] at HR; clear xl
        go_wp2_with fail
        go_ret
        exact ⟨by rw [HR.out]; rfl, S5.out.bel⟩
      have hl : decide (0 < el.length) = false := decide_eq_false gl
      have xl : (el.length == 0) = true := by rw [beq_iff_eq]; omega
      rw [xl] at HR; clear xl
      by_cases gm : 0 < e2.length
      · have hm : decide (0 < e2.length) = true := decide_eq_true gm
        have xm : (e2.length == 0) = false := by rw [beq_eq_false_iff_ne]; omega
        rw [xm] at HR; clear xm
        go_wp2_with fail
        go_ret
        exact ⟨by rw [HR.out]; rfl, S5.out.bel⟩
      have hm : decide (0 < e2.length) = false := decide_eq_false gm
      have xm : (e2.length == 0) = true := by rw [beq_iff_eq]; omega
      rw [xm] at HR; clear xm
      by_cases gb : 0 < bd.length
      · have hb : decide (0 < bd.length) = true := decide_eq_true gb
        have xb : (bd.length == 0) = false := by rw [beq_eq_false_iff_ne]; omega
        rw [xb] at HR; clear xb
        go_wp2_with fail
        go_ret
        exact ⟨by rw [HR.out]; rfl, S5.out.bel⟩
      have hb : decide (0 < bd.length) = false := decide_eq_false gb
      have xb : (bd.length == 0) = true := by rw [beq_iff_eq]; omega
      rw [xb] at HR; clear xb
      by_cases gn : 0 < en.length
      · have hn : decide (0 < en.length) = true := decide_eq_true gn
        have xn : (en.length == 0) = false := by rw [beq_eq_false_iff_ne]; omega
        rw [xn] at HR; clear xn
        go_wp2_with fail
        go_ret
        exact ⟨by rw [HR.out]; rfl, S5.out.bel⟩
      have hn : decide (0 < en.length) = false := decide_eq_false gn
      have xn : (en.length == 0) = true := by rw [beq_iff_eq]; omega
      rw [xn] at HR; clear xn
      go_wp2_with fail
      refine (K_bd.out _ (S5.out.on HW.out)).mono ?_
      rintro e w6 ⟨rfl, b6⟩
      have S6 := Lib.hid (S5.out.step b6)
      clear b6 cA
      have cA := box_cells S6.out.a
      cases BD with
      | false =>
        go_wp2_with fail
        go_ret
        exact ⟨by rw [HR.out]; rfl, S6.out.bel⟩
      | true =>
      go_wp2_with fail
      refine (K_el.out _ (S6.out.on HW.out)).mono ?_
      rintro e w7 ⟨rfl, b7⟩
      have S7 := Lib.hid (S6.out.step b7)
      clear b7 cA
      have cA := box_cells S7.out.a
      cases EL with
      | false =>
        go_wp2_with fail
        go_ret
        exact ⟨by rw [HR.out]; rfl, S7.out.bel⟩
      | true =>
      go_wp2_with fail
      go_ret
      exact ⟨by rw [HR.out]; rfl, S7.out.bel⟩
set_option maxRecDepth 100000 in
set_option maxHeartbeats 8000000 in
theorem rst_7 (w0 : World) (d : Int) (dp : Nat) (hdp : dp ≤ 48) (m0 m1 : List (List D)) (nm : ByteArray) (pop pn : Int) (pnm pfd : ByteArray) (pl ex : List (List D)) (dn mo : Bool) (bd el en e2 : List (List D)) (m0a : Option Addr) (m0c : Nat) (m1a : Option Addr) (m1c : Nat) (pla : Option Addr) (plc : Nat) (exa : Option Addr) (exc : Nat) (bda : Option Addr) (bdc : Nat) (ela : Option Addr) (elc : Nat) (ena : Option Addr) (enc : Nat) (e2a : Option Addr) (e2c : Nat) (M EN E2 P NM BD EL R : Bool) (gx : List D → Bool)
    (q_m : Says w0 31 #[.agg #[.slice m0a m0.length m0c, .slice m1a m1.length m1c]] (.bool M)) (q_en : Says w0 30 #[.slice ena en.length enc] (.bool EN)) (q_e2 : Says w0 30 #[.slice e2a e2.length e2c] (.bool E2)) (q_p : Says w0 119 #[.int .i64 d, .agg #[.int .i64 pop, .int .i64 pn, .string pnm, .string pfd, .slice pla pl.length plc]] (.bool P)) (q_nm : Says w0 29 #[.int .i64 d, .string nm] (.bool NM))
    (q_bd : Says w0 34 #[.int .i64 d, .slice bda bd.length bdc, .int .i64 ((dp + 1 : Nat) : Int)] (.bool BD)) (q_el : Says w0 34 #[.int .i64 d, .slice ela el.length elc, .int .i64 ((dp + 1 : Nat) : Int)] (.bool EL))
    (q_x : ∀ x ∈ ex, ∀ vs, AllAt w0 vs x → Says w0 10 #[.int .i64 d, .agg ⟨vs⟩] (.bool (gx x))) (a_ex : At w0 (.slice exa ex.length exc) (.row ex)) (t_ex : ∀ x ∈ ex, ShE x)
    (hR : R = (M && (EN && (E2 && (wthn ex.length 0 0 && (ex.all gx && (P && ((nm.toList.isEmpty && !dn) && ((!mo && ((el.length == 0) && (e2.length == 0))) && (((bd.length == 0) && (en.length == 0)) && (BD && EL))))))))))) (w : World) (hW : Below w0.heap.size w0 w) :
    Calls Tryz.prog 81 #[.int .i64 d, .agg #[.slice m0a m0.length m0c, .slice m1a m1.length m1c, .int .i64 7, .string nm, .int .i64 pop, .int .i64 pn, .string pnm, .string pfd, .slice pla pl.length plc, .slice exa ex.length exc, .bool dn, .bool mo, .slice bda bd.length bdc, .slice ela el.length elc, .slice ena en.length enc, .slice e2a e2.length e2c], .int .i64 dp] w fun e w' => e = .returned (.bool R) ∧ Below w.heap.size w w' := by
  have K_m := Lib.hid q_m
  have K_en := Lib.hid q_en
  have K_e2 := Lib.hid q_e2
  have K_p := Lib.hid q_p
  have K_nm := Lib.hid q_nm
  have K_bd := Lib.hid q_bd
  have K_el := Lib.hid q_el
  have K_x := Lib.hid q_x
  have HA := Lib.hid a_ex
  have HS := Lib.hid t_ex
  have HW := Lib.hid hW
  have HR := Lib.hid hR
  have hle := a_ex.len_le
  have S0 := Lib.hid (Bx1.start w (.cells #[.slice m0a m0.length m0c, .slice m1a m1.length m1c, .int .i64 7, .string nm, .int .i64 pop, .int .i64 pn, .string pnm, .string pfd, .slice pla pl.length plc, .slice exa ex.length exc, .bool dn, .bool mo, .slice bda bd.length bdc, .slice ela el.length elc, .slice ena en.length enc, .slice e2a e2.length e2c] 84))
  have hdp2 : decide ((48 : Int) < (dp : Int)) = false := by simp; omega
  clear q_m q_en q_e2 q_p q_nm q_bd q_el q_x a_ex t_ex hW hR
  go_enter Tryz.func81, Tryz.ntmps81
  go_wp2_with fail
  refine (K_m.out _ (S0.out.on HW.out)).mono ?_
  rintro e w1 ⟨rfl, b1⟩
  have S1 := Lib.hid (S0.out.step b1)
  clear b1
  have cA := box_cells S1.out.a
  cases M with
  | false =>
    go_wp2_with fail
    go_ret
    exact ⟨by rw [HR.out]; rfl, S1.out.bel⟩
  | true =>
  go_wp2_with fail
  refine (K_en.out _ (S1.out.on HW.out)).mono ?_
  rintro e w2 ⟨rfl, b2⟩
  have S2 := Lib.hid (S1.out.step b2)
  clear b2 cA
  have cA := box_cells S2.out.a
  cases EN with
  | false =>
    go_wp2_with fail
    go_ret
    exact ⟨by rw [HR.out]; rfl, S2.out.bel⟩
  | true =>
  go_wp2_with fail
  refine (K_e2.out _ (S2.out.on HW.out)).mono ?_
  rintro e w3 ⟨rfl, b3⟩
  have S3 := Lib.hid (S2.out.step b3)
  clear b3 cA
  have cA := box_cells S3.out.a
  cases E2 with
  | false =>
    go_wp2_with fail
    go_ret
    exact ⟨by rw [HR.out]; rfl, S3.out.bel⟩
  | true =>
  by_cases hlo : (ex.length : Int) < 0
  · have hl1 : decide ((ex.length : Int) < 0) = true := decide_eq_true hlo
    have hwt : wthn ex.length 0 0 = false := by unfold wthn; rw [decide_eq_false (show ¬ ((0 : Int) ≤ (ex.length : Int)) by omega), Bool.false_and]
    rw [hwt] at HR
    omega
  by_cases hhi : (0 : Int) < ex.length
  · have hl1 : decide ((ex.length : Int) < 0) = false := decide_eq_false hlo
    have hl3 : decide ((0 : Int) < ex.length) = true := decide_eq_true hhi
    have hl4 : decide (0 < ex.length) = true := decide_eq_true (by omega)
    have hwt : wthn ex.length 0 0 = false := by unfold wthn; rw [decide_eq_false (show ¬ ((ex.length : Int) ≤ 0) by omega), Bool.and_false]
    rw [hwt] at HR
    go_wp2_with fail
    go_ret
    exact ⟨by rw [HR.out]; rfl, S3.out.bel⟩
  have hl1 : decide ((ex.length : Int) < 0) = false := decide_eq_false hlo
  have hl3 : decide ((0 : Int) < ex.length) = false := decide_eq_false hhi
  have hl4 : decide (0 < ex.length) = false := decide_eq_false (by omega)
  have hwt : wthn ex.length 0 0 = true := by unfold wthn; rw [decide_eq_true (show ((0 : Int) ≤ (ex.length : Int)) by omega), decide_eq_true (show ((ex.length : Int) ≤ 0) by omega)]; rfl
  rw [hwt] at HR; clear hwt
  go_wp2_with fail
  go_loopw [9] (fun i wr => ∃ k : Nat, k ≤ ex.length ∧ i = .int .i64 k ∧ Hid ((ex.take k).all gx = true) ∧ Hid (Bx1 w (.cells #[.slice m0a m0.length m0c, .slice m1a m1.length m1c, .int .i64 7, .string nm, .int .i64 pop, .int .i64 pn, .string pnm, .string pfd, .slice pla pl.length plc, .slice exa ex.length exc, .bool dn, .bool mo, .slice bda bd.length bdc, .slice ela el.length elc, .slice ena en.length enc, .slice e2a e2.length e2c] 84) wr)) (fun i _ => ex.length - (intOf i).toNat)
  case atStart => exact ⟨0, Nat.zero_le _, rfl, Lib.hid rfl, Lib.hid S3.out⟩
  case round =>
    obtain ⟨k, hk, rfl, HT, SW⟩ := hrel
    clear cA
    have cA := box_cells SW.out.a
    by_cases hlt : k < ex.length
    · omega
    · obtain rfl : k = ex.length := by omega
      have hal := HT.out
      rw [List.take_length] at hal
      rw [hal] at HR; clear hal
      have S4 := SW
      go_wp2_with fail
      refine (K_p.out _ (S4.out.on HW.out)).mono ?_
      rintro e w5 ⟨rfl, b5⟩
      have S5 := Lib.hid (S4.out.step b5)
      clear b5 cA
      have cA := box_cells S5.out.a
      cases P with
      | false =>
        go_wp2_with fail
        go_ret
        exact ⟨by rw [HR.out]; rfl, S5.out.bel⟩
      | true =>
      cases hnm : nm.toList.isEmpty with
      | false =>
        rw [hnm] at HR
        have hnm2 : (nm.toList == []) = false := by rw [← hnm]; cases nm.toList <;> rfl
        go_wp2_with fail
        go_ret
        exact ⟨by rw [HR.out]; rfl, S5.out.bel⟩
      | true =>
      rw [hnm] at HR
      have hnm2 : (nm.toList == []) = true := by rw [← hnm]; cases nm.toList <;> rfl
      cases dn with
      | true =>
        go_wp2_with fail
        go_ret
        exact ⟨by rw [HR.out]; rfl, S5.out.bel⟩
      | false =>
      cases mo with
      | true =>
        go_wp2_with fail
        go_ret
        exact ⟨by rw [HR.out]; rfl, S5.out.bel⟩
      | false =>
      by_cases gl : 0 < el.length
      · have hl : decide (0 < el.length) = true := decide_eq_true gl
        have xl : (el.length == 0) = false := by rw [beq_eq_false_iff_ne]; omega
        rw [xl] at HR; clear xl
        go_wp2_with fail
        go_ret
        exact ⟨by rw [HR.out]; rfl, S5.out.bel⟩
      have hl : decide (0 < el.length) = false := decide_eq_false gl
      have xl : (el.length == 0) = true := by rw [beq_iff_eq]; omega
      rw [xl] at HR; clear xl
      by_cases gm : 0 < e2.length
      · have hm : decide (0 < e2.length) = true := decide_eq_true gm
        have xm : (e2.length == 0) = false := by rw [beq_eq_false_iff_ne]; omega
        rw [xm] at HR; clear xm
        go_wp2_with fail
        go_ret
        exact ⟨by rw [HR.out]; rfl, S5.out.bel⟩
      have hm : decide (0 < e2.length) = false := decide_eq_false gm
      have xm : (e2.length == 0) = true := by rw [beq_iff_eq]; omega
      rw [xm] at HR; clear xm
      by_cases gb : 0 < bd.length
      · have hb : decide (0 < bd.length) = true := decide_eq_true gb
        have xb : (bd.length == 0) = false := by rw [beq_eq_false_iff_ne]; omega
        rw [xb] at HR; clear xb
        go_wp2_with fail
        go_ret
        exact ⟨by rw [HR.out]; rfl, S5.out.bel⟩
      have hb : decide (0 < bd.length) = false := decide_eq_false gb
      have xb : (bd.length == 0) = true := by rw [beq_iff_eq]; omega
      rw [xb] at HR; clear xb
      by_cases gn : 0 < en.length
      · have hn : decide (0 < en.length) = true := decide_eq_true gn
        have xn : (en.length == 0) = false := by rw [beq_eq_false_iff_ne]; omega
        rw [xn] at HR; clear xn
        go_wp2_with fail
        go_ret
        exact ⟨by rw [HR.out]; rfl, S5.out.bel⟩
      have hn : decide (0 < en.length) = false := decide_eq_false gn
      have xn : (en.length == 0) = true := by rw [beq_iff_eq]; omega
      rw [xn] at HR; clear xn
      go_wp2_with fail
      refine (K_bd.out _ (S5.out.on HW.out)).mono ?_
      rintro e w6 ⟨rfl, b6⟩
      have S6 := Lib.hid (S5.out.step b6)
      clear b6 cA
      have cA := box_cells S6.out.a
      cases BD with
      | false =>
        go_wp2_with fail
        go_ret
        exact ⟨by rw [HR.out]; rfl, S6.out.bel⟩
      | true =>
      go_wp2_with fail
      refine (K_el.out _ (S6.out.on HW.out)).mono ?_
      rintro e w7 ⟨rfl, b7⟩
      have S7 := Lib.hid (S6.out.step b7)
      clear b7 cA
      have cA := box_cells S7.out.a
      cases EL with
      | false =>
        go_wp2_with fail
        go_ret
        exact ⟨by rw [HR.out]; rfl, S7.out.bel⟩
      | true =>
      go_wp2_with fail
      go_ret
      exact ⟨by rw [HR.out]; rfl, S7.out.bel⟩
end Go.Proofs.YtciijpahjjoppaaGreat
end
section
namespace Go.Proofs.YtciijpahjjoppaaGreat
open Go.RowKit Go.Deep Go.Maps

set_option maxRecDepth 100000 in
set_option maxHeartbeats 8000000 in
theorem rst_2 (w0 : World) (d : Int) (dp : Nat) (hdp : dp ≤ 48) (m0 m1 : List (List D)) (nm : ByteArray) (pop pn : Int) (pnm pfd : ByteArray) (pl ex : List (List D)) (dn mo : Bool) (bd el en e2 : List (List D)) (m0a : Option Addr) (m0c : Nat) (m1a : Option Addr) (m1c : Nat) (pla : Option Addr) (plc : Nat) (exa : Option Addr) (exc : Nat) (bda : Option Addr) (bdc : Nat) (ela : Option Addr) (elc : Nat) (ena : Option Addr) (enc : Nat) (e2a : Option Addr) (e2c : Nat) (M EN E2 P NM BD EL R : Bool) (gx : List D → Bool)
    (q_m : Says w0 31 #[.agg #[.slice m0a m0.length m0c, .slice m1a m1.length m1c]] (.bool M)) (q_en : Says w0 30 #[.slice ena en.length enc] (.bool EN)) (q_e2 : Says w0 30 #[.slice e2a e2.length e2c] (.bool E2)) (q_p : Says w0 120 #[.agg #[.int .i64 pop, .int .i64 pn, .string pnm, .string pfd, .slice pla pl.length plc]] (.bool P)) (q_nm : Says w0 29 #[.int .i64 d, .string nm] (.bool NM))
    (q_bd : Says w0 34 #[.int .i64 d, .slice bda bd.length bdc, .int .i64 ((dp + 1 : Nat) : Int)] (.bool BD)) (q_el : Says w0 34 #[.int .i64 d, .slice ela el.length elc, .int .i64 ((dp + 1 : Nat) : Int)] (.bool EL))
    (q_x : ∀ x ∈ ex, ∀ vs, AllAt w0 vs x → Says w0 10 #[.int .i64 d, .agg ⟨vs⟩] (.bool (gx x))) (a_ex : At w0 (.slice exa ex.length exc) (.row ex)) (t_ex : ∀ x ∈ ex, ShE x)
    (hR : R = (M && (EN && (E2 && (wthn ex.length 1 1 && (ex.all (fun x => gx x && (opD x == 7)) && (P && ((nm.toList.isEmpty && !dn) && ((!mo && ((el.length == 0) && (e2.length == 0))) && (((bd.length == 0) && (en.length == 0)) && (BD && EL))))))))))) (w : World) (hW : Below w0.heap.size w0 w) :
    Calls Tryz.prog 81 #[.int .i64 d, .agg #[.slice m0a m0.length m0c, .slice m1a m1.length m1c, .int .i64 2, .string nm, .int .i64 pop, .int .i64 pn, .string pnm, .string pfd, .slice pla pl.length plc, .slice exa ex.length exc, .bool dn, .bool mo, .slice bda bd.length bdc, .slice ela el.length elc, .slice ena en.length enc, .slice e2a e2.length e2c], .int .i64 dp] w fun e w' => e = .returned (.bool R) ∧ Below w.heap.size w w' := by
  have K_m := Lib.hid q_m
  have K_en := Lib.hid q_en
  have K_e2 := Lib.hid q_e2
  have K_p := Lib.hid q_p
  have K_nm := Lib.hid q_nm
  have K_bd := Lib.hid q_bd
  have K_el := Lib.hid q_el
  have K_x := Lib.hid q_x
  have HA := Lib.hid a_ex
  have HS := Lib.hid t_ex
  have HW := Lib.hid hW
  have HR := Lib.hid hR
  have hle := a_ex.len_le
  have S0 := Lib.hid (Bx1.start w (.cells #[.slice m0a m0.length m0c, .slice m1a m1.length m1c, .int .i64 2, .string nm, .int .i64 pop, .int .i64 pn, .string pnm, .string pfd, .slice pla pl.length plc, .slice exa ex.length exc, .bool dn, .bool mo, .slice bda bd.length bdc, .slice ela el.length elc, .slice ena en.length enc, .slice e2a e2.length e2c] 84))
  have hdp2 : decide ((48 : Int) < (dp : Int)) = false := by simp; omega
  clear q_m q_en q_e2 q_p q_nm q_bd q_el q_x a_ex t_ex hW hR
  go_enter Tryz.func81, Tryz.ntmps81
  go_wp2_with fail
  refine (K_m.out _ (S0.out.on HW.out)).mono ?_
  rintro e w1 ⟨rfl, b1⟩
  have S1 := Lib.hid (S0.out.step b1)
  clear b1
  have cA := box_cells S1.out.a
  cases M with
  | false =>
    go_wp2_with fail
    go_ret
    exact ⟨by rw [HR.out]; rfl, S1.out.bel⟩
  | true =>
  go_wp2_with fail
  refine (K_en.out _ (S1.out.on HW.out)).mono ?_
  rintro e w2 ⟨rfl, b2⟩
  have S2 := Lib.hid (S1.out.step b2)
  clear b2 cA
  have cA := box_cells S2.out.a
  cases EN with
  | false =>
    go_wp2_with fail
    go_ret
    exact ⟨by rw [HR.out]; rfl, S2.out.bel⟩
  | true =>
  go_wp2_with fail
  refine (K_e2.out _ (S2.out.on HW.out)).mono ?_
  rintro e w3 ⟨rfl, b3⟩
  have S3 := Lib.hid (S2.out.step b3)
  clear b3 cA
  have cA := box_cells S3.out.a
  cases E2 with
  | false =>
    go_wp2_with fail
    go_ret
    exact ⟨by rw [HR.out]; rfl, S3.out.bel⟩
  | true =>
  by_cases hlo : (ex.length : Int) < 1
  · have hl1 : decide ((ex.length : Int) < 1) = true := decide_eq_true hlo
    have hwt : wthn ex.length 1 1 = false := by unfold wthn; rw [decide_eq_false (show ¬ ((1 : Int) ≤ (ex.length : Int)) by omega), Bool.false_and]
    rw [hwt] at HR
    have hl2 : decide (ex.length < 1) = true := decide_eq_true (by omega)
    go_wp2_with fail
    go_ret
    exact ⟨by rw [HR.out]; rfl, S3.out.bel⟩
  by_cases hhi : (1 : Int) < ex.length
  · have hl1 : decide ((ex.length : Int) < 1) = false := decide_eq_false hlo
    have hl3 : decide ((1 : Int) < ex.length) = true := decide_eq_true hhi
    have hl2 : decide (ex.length < 1) = false := decide_eq_false (by omega)
    have hl4 : decide (1 < ex.length) = true := decide_eq_true (by omega)
    have hwt : wthn ex.length 1 1 = false := by unfold wthn; rw [decide_eq_false (show ¬ ((ex.length : Int) ≤ 1) by omega), Bool.and_false]
    rw [hwt] at HR
    go_wp2_with fail
    go_ret
    exact ⟨by rw [HR.out]; rfl, S3.out.bel⟩
  have hl1 : decide ((ex.length : Int) < 1) = false := decide_eq_false hlo
  have hl3 : decide ((1 : Int) < ex.length) = false := decide_eq_false hhi
  have hl2 : decide (ex.length < 1) = false := decide_eq_false (by omega)
  have hl4 : decide (1 < ex.length) = false := decide_eq_false (by omega)
  have hwt : wthn ex.length 1 1 = true := by unfold wthn; rw [decide_eq_true (show ((1 : Int) ≤ (ex.length : Int)) by omega), decide_eq_true (show ((ex.length : Int) ≤ 1) by omega)]; rfl
  rw [hwt] at HR; clear hwt
  go_wp2_with fail
  go_loopw [9] (fun i wr => ∃ k : Nat, k ≤ ex.length ∧ i = .int .i64 k ∧ Hid ((ex.take k).all (fun x => gx x && (opD x == 7)) = true) ∧ Hid (Bx1 w (.cells #[.slice m0a m0.length m0c, .slice m1a m1.length m1c, .int .i64 2, .string nm, .int .i64 pop, .int .i64 pn, .string pnm, .string pfd, .slice pla pl.length plc, .slice exa ex.length exc, .bool dn, .bool mo, .slice bda bd.length bdc, .slice ela el.length elc, .slice ena en.length enc, .slice e2a e2.length e2c] 84) wr)) (fun i _ => ex.length - (intOf i).toNat)
  case atStart => exact ⟨0, Nat.zero_le _, rfl, Lib.hid rfl, Lib.hid S3.out⟩
  case round =>
    obtain ⟨k, hk, rfl, HT, SW⟩ := hrel
    clear cA
    have cA := box_cells SW.out.a
    by_cases hlt : k < ex.length
    · obtain ⟨b, o, vs, ds, rfl, hbl, hx, hv, hc⟩ := HA.out.elem hlt
      have qx := Lib.hid (K_x.out ds (List.mem_of_getElem? hx) vs hv)
      obtain ⟨xop, xn, xnm, xfd, kl, kla, klc, hds, hvs, _⟩ := hv.openE (HS.out _ (List.mem_of_getElem? hx))
      subst hvs
      have hdl : ds.length = 5 := by rw [hds]; rfl
      rw [hdl] at hc
      have B0 := SW.out.on HW.out
      have hbw : b < wr.heap.size := Nat.lt_of_lt_of_le hbl B0.size
      have c0 := (B0.cell (p := ⟨b, o + k * 5, none⟩) hbl).trans (hc 0 _ rfl)
      have c1 := (B0.cell (p := ⟨b, o + k * 5 + 1, none⟩) hbl).trans (hc 1 _ rfl)
      have c2 := (B0.cell (p := ⟨b, o + k * 5 + 2, none⟩) hbl).trans (hc 2 _ rfl)
      have c3 := (B0.cell (p := ⟨b, o + k * 5 + 3, none⟩) hbl).trans (hc 3 _ rfl)
      have c4 := (B0.cell (p := ⟨b, o + k * 5 + 4, none⟩) hbl).trans (hc 4 _ rfl)
      have C0 := Lib.hid (hc 0 _ rfl)
      have HX := Lib.hid hx
      have HOP := Lib.hid (show opD ds = xop by rw [hds]; rfl)
      clear hx hds hdl hc B0 hv
      go_wp2_with fail
      refine (qx.out _ (SW.out.on HW.out)).mono ?_
      rintro e v1 ⟨rfl, bv⟩
      have SV := Lib.hid (SW.out.step bv)
      clear bv cA c0 c1 c2 c3 c4
      have cA := box_cells SV.out.a
      have B1 := SV.out.on HW.out
      have hbw1 : b < v1.heap.size := Nat.lt_of_lt_of_le hbl B1.size
      have c0 := (B1.cell (p := ⟨b, o + k * 5, none⟩) hbl).trans C0.out
      clear B1
      cases hg : gx ds with
      | false =>
        have hal : ex.all (fun x => gx x && (opD x == 7)) = false := by rw [List.all_eq_false]; exact ⟨ds, List.mem_of_getElem? HX.out, by simp [hg]⟩
        rw [hal] at HR; clear hg hal
        go_wp2_with fail
        go_ret
        exact ⟨by rw [HR.out]; rfl, SV.out.bel⟩
      | true =>
      cases hq : xop == 7 with
      | false =>
        have hq' : (xop != 7) = true := by rw [bne, hq]; rfl
        have hal : ex.all (fun x => gx x && (opD x == 7)) = false := by rw [List.all_eq_false]; exact ⟨ds, List.mem_of_getElem? HX.out, by simp only [HOP.out, hq, Bool.and_false]; simp⟩
        rw [hal] at HR; clear hg hal hq
        go_wp2_with fail
        go_ret
        exact ⟨by rw [HR.out]; rfl, SV.out.bel⟩
      | true =>
      have hq' : (xop != 7) = false := by rw [bne, hq]; rfl
      have HE := Lib.hid (all_take_succ (f := (fun x => gx x && (opD x == 7))) HX.out HT.out (by simp only [HOP.out, hg, hq, Bool.and_self]))
      clear hg hq
      go_wp2_with fail
      go_roundw
      case rel => exact ⟨k + 1, by omega, by go_num, HE, SV⟩
      case measure => simp [intOf]; omega
    · obtain rfl : k = ex.length := by omega
      have hal := HT.out
      rw [List.take_length] at hal
      rw [hal] at HR; clear hal
      have S4 := SW
      go_wp2_with fail
      refine (K_p.out _ (S4.out.on HW.out)).mono ?_
      rintro e w5 ⟨rfl, b5⟩
      have S5 := Lib.hid (S4.out.step b5)
      clear b5 cA
      have cA := box_cells S5.out.a
      cases P with
      | false =>
        go_wp2_with fail
        go_ret
        exact ⟨by rw [HR.out]; rfl, S5.out.bel⟩
      | true =>
      cases hnm : nm.toList.isEmpty with
      | false =>
        rw [hnm] at HR
        have hnm2 : (nm.toList == []) = false := by rw [← hnm]; cases nm.toList <;> rfl
        go_wp2_with fail
        go_ret
        exact ⟨by rw [HR.out]; rfl, S5.out.bel⟩
      | true =>
      rw [hnm] at HR
      have hnm2 : (nm.toList == []) = true := by rw [← hnm]; cases nm.toList <;> rfl
      cases dn with
      | true =>
        go_wp2_with fail
        go_ret
        exact ⟨by rw [HR.out]; rfl, S5.out.bel⟩
      | false =>
      cases mo with
      | true =>
        go_wp2_with fail
        go_ret
        exact ⟨by rw [HR.out]; rfl, S5.out.bel⟩
      | false =>
      by_cases gl : 0 < el.length
      · have hl : decide (0 < el.length) = true := decide_eq_true gl
        have xl : (el.length == 0) = false := by rw [beq_eq_false_iff_ne]; omega
        rw [xl] at HR; clear xl
        go_wp2_with fail
        go_ret
        exact ⟨by rw [HR.out]; rfl, S5.out.bel⟩
      have hl : decide (0 < el.length) = false := decide_eq_false gl
      have xl : (el.length == 0) = true := by rw [beq_iff_eq]; omega
      rw [xl] at HR; clear xl
      by_cases gm : 0 < e2.length
      · have hm : decide (0 < e2.length) = true := decide_eq_true gm
        have xm : (e2.length == 0) = false := by rw [beq_eq_false_iff_ne]; omega
        rw [xm] at HR; clear xm
        go_wp2_with fail
        go_ret
        exact ⟨by rw [HR.out]; rfl, S5.out.bel⟩
      have hm : decide (0 < e2.length) = false := decide_eq_false gm
      have xm : (e2.length == 0) = true := by rw [beq_iff_eq]; omega
      rw [xm] at HR; clear xm
      by_cases gb : 0 < bd.length
      · have hb : decide (0 < bd.length) = true := decide_eq_true gb
        have xb : (bd.length == 0) = false := by rw [beq_eq_false_iff_ne]; omega
        rw [xb] at HR; clear xb
        go_wp2_with fail
        go_ret
        exact ⟨by rw [HR.out]; rfl, S5.out.bel⟩
      have hb : decide (0 < bd.length) = false := decide_eq_false gb
      have xb : (bd.length == 0) = true := by rw [beq_iff_eq]; omega
      rw [xb] at HR; clear xb
      by_cases gn : 0 < en.length
      · have hn : decide (0 < en.length) = true := decide_eq_true gn
        have xn : (en.length == 0) = false := by rw [beq_eq_false_iff_ne]; omega
        rw [xn] at HR; clear xn
        go_wp2_with fail
        go_ret
        exact ⟨by rw [HR.out]; rfl, S5.out.bel⟩
      have hn : decide (0 < en.length) = false := decide_eq_false gn
      have xn : (en.length == 0) = true := by rw [beq_iff_eq]; omega
      rw [xn] at HR; clear xn
      go_wp2_with fail
      refine (K_bd.out _ (S5.out.on HW.out)).mono ?_
      rintro e w6 ⟨rfl, b6⟩
      have S6 := Lib.hid (S5.out.step b6)
      clear b6 cA
      have cA := box_cells S6.out.a
      cases BD with
      | false =>
        go_wp2_with fail
        go_ret
        exact ⟨by rw [HR.out]; rfl, S6.out.bel⟩
      | true =>
      go_wp2_with fail
      refine (K_el.out _ (S6.out.on HW.out)).mono ?_
      rintro e w7 ⟨rfl, b7⟩
      have S7 := Lib.hid (S6.out.step b7)
      clear b7 cA
      have cA := box_cells S7.out.a
      cases EL with
      | false =>
        go_wp2_with fail
        go_ret
        exact ⟨by rw [HR.out]; rfl, S7.out.bel⟩
      | true =>
      go_wp2_with fail
      go_ret
      exact ⟨by rw [HR.out]; rfl, S7.out.bel⟩
set_option maxRecDepth 100000 in
set_option maxHeartbeats 8000000 in
theorem rst_3 (w0 : World) (d : Int) (dp : Nat) (hdp : dp ≤ 48) (m0 m1 : List (List D)) (nm : ByteArray) (pop pn : Int) (pnm pfd : ByteArray) (pl ex : List (List D)) (dn mo : Bool) (bd el en e2 : List (List D)) (m0a : Option Addr) (m0c : Nat) (m1a : Option Addr) (m1c : Nat) (pla : Option Addr) (plc : Nat) (exa : Option Addr) (exc : Nat) (bda : Option Addr) (bdc : Nat) (ela : Option Addr) (elc : Nat) (ena : Option Addr) (enc : Nat) (e2a : Option Addr) (e2c : Nat) (M EN E2 P NM BD EL R : Bool) (gx : List D → Bool)
    (q_m : Says w0 31 #[.agg #[.slice m0a m0.length m0c, .slice m1a m1.length m1c]] (.bool M)) (q_en : Says w0 30 #[.slice ena en.length enc] (.bool EN)) (q_e2 : Says w0 30 #[.slice e2a e2.length e2c] (.bool E2)) (q_p : Says w0 120 #[.agg #[.int .i64 pop, .int .i64 pn, .string pnm, .string pfd, .slice pla pl.length plc]] (.bool P)) (q_nm : Says w0 29 #[.int .i64 d, .string nm] (.bool NM))
    (q_bd : Says w0 34 #[.int .i64 d, .slice bda bd.length bdc, .int .i64 ((dp + 1 : Nat) : Int)] (.bool BD)) (q_el : Says w0 34 #[.int .i64 d, .slice ela el.length elc, .int .i64 ((dp + 1 : Nat) : Int)] (.bool EL))
    (q_x : ∀ x ∈ ex, ∀ vs, AllAt w0 vs x → Says w0 10 #[.int .i64 d, .agg ⟨vs⟩] (.bool (gx x))) (a_ex : At w0 (.slice exa ex.length exc) (.row ex)) (t_ex : ∀ x ∈ ex, ShE x)
    (hR : R = (M && (EN && (E2 && (wthn ex.length 1 1 && (ex.all gx && (P && ((nm.toList.isEmpty && !dn) && ((mo || ((el.length == 0) && (e2.length == 0))) && (true && (BD && EL))))))))))) (w : World) (hW : Below w0.heap.size w0 w) :
    Calls Tryz.prog 81 #[.int .i64 d, .agg #[.slice m0a m0.length m0c, .slice m1a m1.length m1c, .int .i64 3, .string nm, .int .i64 pop, .int .i64 pn, .string pnm, .string pfd, .slice pla pl.length plc, .slice exa ex.length exc, .bool dn, .bool mo, .slice bda bd.length bdc, .slice ela el.length elc, .slice ena en.length enc, .slice e2a e2.length e2c], .int .i64 dp] w fun e w' => e = .returned (.bool R) ∧ Below w.heap.size w w' := by
  have K_m := Lib.hid q_m
  have K_en := Lib.hid q_en
  have K_e2 := Lib.hid q_e2
  have K_p := Lib.hid q_p
  have K_nm := Lib.hid q_nm
  have K_bd := Lib.hid q_bd
  have K_el := Lib.hid q_el
  have K_x := Lib.hid q_x
  have HA := Lib.hid a_ex
  have HS := Lib.hid t_ex
  have HW := Lib.hid hW
  have HR := Lib.hid hR
  have hle := a_ex.len_le
  have S0 := Lib.hid (Bx1.start w (.cells #[.slice m0a m0.length m0c, .slice m1a m1.length m1c, .int .i64 3, .string nm, .int .i64 pop, .int .i64 pn, .string pnm, .string pfd, .slice pla pl.length plc, .slice exa ex.length exc, .bool dn, .bool mo, .slice bda bd.length bdc, .slice ela el.length elc, .slice ena en.length enc, .slice e2a e2.length e2c] 84))
  have hdp2 : decide ((48 : Int) < (dp : Int)) = false := by simp; omega
  clear q_m q_en q_e2 q_p q_nm q_bd q_el q_x a_ex t_ex hW hR
  go_enter Tryz.func81, Tryz.ntmps81
  go_wp2_with fail
  refine (K_m.out _ (S0.out.on HW.out)).mono ?_
  rintro e w1 ⟨rfl, b1⟩
  have S1 := Lib.hid (S0.out.step b1)
  clear b1
  have cA := box_cells S1.out.a
  cases M with
  | false =>
    go_wp2_with fail
    go_ret
    exact ⟨by rw [HR.out]; rfl, S1.out.bel⟩
  | true =>
  go_wp2_with fail
  refine (K_en.out _ (S1.out.on HW.out)).mono ?_
  rintro e w2 ⟨rfl, b2⟩
  have S2 := Lib.hid (S1.out.step b2)
  clear b2 cA
  have cA := box_cells S2.out.a
  cases EN with
  | false =>
    go_wp2_with fail
    go_ret
    exact ⟨by rw [HR.out]; rfl, S2.out.bel⟩
  | true =>
  go_wp2_with fail
  refine (K_e2.out _ (S2.out.on HW.out)).mono ?_
  rintro e w3 ⟨rfl, b3⟩
  have S3 := Lib.hid (S2.out.step b3)
  clear b3 cA
  have cA := box_cells S3.out.a
  cases E2 with
  | false =>
    go_wp2_with fail
    go_ret
    exact ⟨by rw [HR.out]; rfl, S3.out.bel⟩
  | true =>
  by_cases hlo : (ex.length : Int) < 1
  · have hl1 : decide ((ex.length : Int) < 1) = true := decide_eq_true hlo
    have hwt : wthn ex.length 1 1 = false := by unfold wthn; rw [decide_eq_false (show ¬ ((1 : Int) ≤ (ex.length : Int)) by omega), Bool.false_and]
    rw [hwt] at HR
    have hl2 : decide (ex.length < 1) = true := decide_eq_true (by omega)
    go_wp2_with fail
    go_ret
    exact ⟨by rw [HR.out]; rfl, S3.out.bel⟩
  by_cases hhi : (1 : Int) < ex.length
  · have hl1 : decide ((ex.length : Int) < 1) = false := decide_eq_false hlo
    have hl3 : decide ((1 : Int) < ex.length) = true := decide_eq_true hhi
    have hl2 : decide (ex.length < 1) = false := decide_eq_false (by omega)
    have hl4 : decide (1 < ex.length) = true := decide_eq_true (by omega)
    have hwt : wthn ex.length 1 1 = false := by unfold wthn; rw [decide_eq_false (show ¬ ((ex.length : Int) ≤ 1) by omega), Bool.and_false]
    rw [hwt] at HR
    go_wp2_with fail
    go_ret
    exact ⟨by rw [HR.out]; rfl, S3.out.bel⟩
  have hl1 : decide ((ex.length : Int) < 1) = false := decide_eq_false hlo
  have hl3 : decide ((1 : Int) < ex.length) = false := decide_eq_false hhi
  have hl2 : decide (ex.length < 1) = false := decide_eq_false (by omega)
  have hl4 : decide (1 < ex.length) = false := decide_eq_false (by omega)
  have hwt : wthn ex.length 1 1 = true := by unfold wthn; rw [decide_eq_true (show ((1 : Int) ≤ (ex.length : Int)) by omega), decide_eq_true (show ((ex.length : Int) ≤ 1) by omega)]; rfl
  rw [hwt] at HR; clear hwt
  go_wp2_with fail
  go_loopw [9] (fun i wr => ∃ k : Nat, k ≤ ex.length ∧ i = .int .i64 k ∧ Hid ((ex.take k).all gx = true) ∧ Hid (Bx1 w (.cells #[.slice m0a m0.length m0c, .slice m1a m1.length m1c, .int .i64 3, .string nm, .int .i64 pop, .int .i64 pn, .string pnm, .string pfd, .slice pla pl.length plc, .slice exa ex.length exc, .bool dn, .bool mo, .slice bda bd.length bdc, .slice ela el.length elc, .slice ena en.length enc, .slice e2a e2.length e2c] 84) wr)) (fun i _ => ex.length - (intOf i).toNat)
  case atStart => exact ⟨0, Nat.zero_le _, rfl, Lib.hid rfl, Lib.hid S3.out⟩
  case round =>
    obtain ⟨k, hk, rfl, HT, SW⟩ := hrel
    clear cA
    have cA := box_cells SW.out.a
    by_cases hlt : k < ex.length
    · obtain ⟨b, o, vs, ds, rfl, hbl, hx, hv, hc⟩ := HA.out.elem hlt
      have qx := Lib.hid (K_x.out ds (List.mem_of_getElem? hx) vs hv)
      obtain ⟨xop, xn, xnm, xfd, kl, kla, klc, hds, hvs, _⟩ := hv.openE (HS.out _ (List.mem_of_getElem? hx))
      subst hvs
      have hdl : ds.length = 5 := by rw [hds]; rfl
      rw [hdl] at hc
      have B0 := SW.out.on HW.out
      have hbw : b < wr.heap.size := Nat.lt_of_lt_of_le hbl B0.size
      have c0 := (B0.cell (p := ⟨b, o + k * 5, none⟩) hbl).trans (hc 0 _ rfl)
      have c1 := (B0.cell (p := ⟨b, o + k * 5 + 1, none⟩) hbl).trans (hc 1 _ rfl)
      have c2 := (B0.cell (p := ⟨b, o + k * 5 + 2, none⟩) hbl).trans (hc 2 _ rfl)
      have c3 := (B0.cell (p := ⟨b, o + k * 5 + 3, none⟩) hbl).trans (hc 3 _ rfl)
      have c4 := (B0.cell (p := ⟨b, o + k * 5 + 4, none⟩) hbl).trans (hc 4 _ rfl)
      have C0 := Lib.hid (hc 0 _ rfl)
      have HX := Lib.hid hx
      have HOP := Lib.hid (show opD ds = xop by rw [hds]; rfl)
      clear hx hds hdl hc B0 hv
      go_wp2_with fail
      refine (qx.out _ (SW.out.on HW.out)).mono ?_
      rintro e v1 ⟨rfl, bv⟩
      have SV := Lib.hid (SW.out.step bv)
      clear bv cA c0 c1 c2 c3 c4
      have cA := box_cells SV.out.a
      have B1 := SV.out.on HW.out
      have hbw1 : b < v1.heap.size := Nat.lt_of_lt_of_le hbl B1.size
      have c0 := (B1.cell (p := ⟨b, o + k * 5, none⟩) hbl).trans C0.out
      clear B1
      cases hg : gx ds with
      | false =>
        have hal : ex.all gx = false := by rw [List.all_eq_false]; exact ⟨ds, List.mem_of_getElem? HX.out, by simp [hg]⟩
        rw [hal] at HR; clear hg hal
        go_wp2_with fail
        go_ret
        exact ⟨by rw [HR.out]; rfl, SV.out.bel⟩
      | true =>
      have HE := Lib.hid (all_take_succ (f := gx) HX.out HT.out hg)
      clear hg
      go_wp2_with fail
      go_roundw
      case rel => exact ⟨k + 1, by omega, by go_num, HE, SV⟩
      case measure => simp [intOf]; omega
    · obtain rfl : k = ex.length := by omega
      have hal := HT.out
      rw [List.take_length] at hal
      rw [hal] at HR; clear hal
      have S4 := SW
      go_wp2_with fail
      refine (K_p.out _ (S4.out.on HW.out)).mono ?_
      rintro e w5 ⟨rfl, b5⟩
      have S5 := Lib.hid (S4.out.step b5)
      clear b5 cA
      have cA := box_cells S5.out.a
      cases P with
      | false =>
        go_wp2_with fail
        go_ret
        exact ⟨by rw [HR.out]; rfl, S5.out.bel⟩
      | true =>
      cases hnm : nm.toList.isEmpty with
      | false =>
        rw [hnm] at HR
        have hnm2 : (nm.toList == []) = false := by rw [← hnm]; cases nm.toList <;> rfl
        go_wp2_with fail
        go_ret
        exact ⟨by rw [HR.out]; rfl, S5.out.bel⟩
      | true =>
      rw [hnm] at HR
      have hnm2 : (nm.toList == []) = true := by rw [← hnm]; cases nm.toList <;> rfl
      cases dn with
      | true =>
        go_wp2_with fail
        go_ret
        exact ⟨by rw [HR.out]; rfl, S5.out.bel⟩
      | false =>
      cases mo with
      | true =>
        go_wp2_with fail
        refine (K_bd.out _ (S5.out.on HW.out)).mono ?_
        rintro e w6 ⟨rfl, b6⟩
        have S6 := Lib.hid (S5.out.step b6)
        clear b6 cA
        have cA := box_cells S6.out.a
        cases BD with
        | false =>
          go_wp2_with fail
          go_ret
          exact ⟨by rw [HR.out]; rfl, S6.out.bel⟩
        | true =>
        go_wp2_with fail
        refine (K_el.out _ (S6.out.on HW.out)).mono ?_
        rintro e w7 ⟨rfl, b7⟩
        have S7 := Lib.hid (S6.out.step b7)
        clear b7 cA
        have cA := box_cells S7.out.a
        cases EL with
        | false =>
          go_wp2_with fail
          go_ret
          exact ⟨by rw [HR.out]; rfl, S7.out.bel⟩
        | true =>
        go_wp2_with fail
        go_ret
        exact ⟨by rw [HR.out]; rfl, S7.out.bel⟩
      | false =>
      by_cases gl : 0 < el.length
      · have hl : decide (0 < el.length) = true := decide_eq_true gl
        have xl : (el.length == 0) = false := by rw [beq_eq_false_iff_ne]; omega
        rw [xl] at HR; clear xl
        go_wp2_with fail
        go_ret
        exact ⟨by rw [HR.out]; rfl, S5.out.bel⟩
      have hl : decide (0 < el.length) = false := decide_eq_false gl
      have xl : (el.length == 0) = true := by rw [beq_iff_eq]; omega
      rw [xl] at HR; clear xl
      by_cases gm : 0 < e2.length
      · have hm : decide (0 < e2.length) = true := decide_eq_true gm
        have xm : (e2.length == 0) = false := by rw [beq_eq_false_iff_ne]; omega
        rw [xm] at HR; clear xm
        go_wp2_with fail
        go_ret
        exact ⟨by rw [HR.out]; rfl, S5.out.bel⟩
      have hm : decide (0 < e2.length) = false := decide_eq_false gm
      have xm : (e2.length == 0) = true := by rw [beq_iff_eq]; omega
      rw [xm] at HR; clear xm
      go_wp2_with fail
      refine (K_bd.out _ (S5.out.on HW.out)).mono ?_
      rintro e w6 ⟨rfl, b6⟩
      have S6 := Lib.hid (S5.out.step b6)
      clear b6 cA
      have cA := box_cells S6.out.a
      cases BD with
      | false =>
        go_wp2_with fail
        go_ret
        exact ⟨by rw [HR.out]; rfl, S6.out.bel⟩
      | true =>
      go_wp2_with fail
      refine (K_el.out _ (S6.out.on HW.out)).mono ?_
      rintro e w7 ⟨rfl, b7⟩
      have S7 := Lib.hid (S6.out.step b7)
      clear b7 cA
      have cA := box_cells S7.out.a
      cases EL with
      | false =>
        go_wp2_with fail
        go_ret
        exact ⟨by rw [HR.out]; rfl, S7.out.bel⟩
      | true =>
      go_wp2_with fail
      go_ret
      exact ⟨by rw [HR.out]; rfl, S7.out.bel⟩
end Go.Proofs.YtciijpahjjoppaaGreat
end
