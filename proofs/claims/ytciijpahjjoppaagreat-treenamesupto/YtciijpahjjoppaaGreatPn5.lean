/-
  Texts of this proof, put together.
-/
import Derived.Test.YtciijpahjjoppaaGreatPn4
import Derived.Test.YtciijpahjjoppaaGreatPn2
section
namespace Go.Proofs.YtciijpahjjoppaaGreat
open Go.RowKit Go.Shelf Go.Deep
attribute [local go_sem] Oper.semAt_some

def okR (d : Int) (s : ByteArray) : Bool := if d == 1 then (parts s).all (okName d) else okName d s
theorem results_cell1 {fn : Func} {tmps : Array Value} {w : World} {i : Nat} {T : TypeId} (hres : fn.results = #[.cell i T]) (hag : ∀ w, (isAgg T).run Tryz.prog w = .ok false w) {b : Nat} (ht : tmps.getD i undef = .pointer (some ⟨b, 0, none⟩)) {v : Value} (hb : w.cell? ⟨b, 0, none⟩ = some v) :
    (results fn tmps).run Tryz.prog w = .ok v w := by
  rw [Array.getD_eq_getD_getElem?] at ht
  unfold results
  simp [hres, ht, loadVar, asAddr, hag, hb, Sem.run_bind]
structure RnJ (d ar : Int) (w : World) (r : Value) (W : World) : Prop where
  bc : W.heap[w.heap.size]? = some (.cells #[.int .i64 d, .int .i64 ar] 51 (0, 0))
  br : Boxed W (w.heap.size + 1) 4 r
  bel : Below w.heap.size w W
  sz : w.heap.size + 3 ≤ W.heap.size
theorem RnJ.same {d ar : Int} {w : World} {r : Value} {W W' : World} (h : RnJ d ar w r W) {row : Option Nat} (hg : W.grownBy W' row) (hr : ∀ b, row = some b → w.heap.size + 3 ≤ b) : RnJ d ar w r W' := by
  have hz := h.sz
  have blk : ∀ b, b < w.heap.size + 3 → W'.heap[b]? = W.heap[b]? := fun b hb => hg.block b (by omega) fun e => by have := hr b e.symm; omega
  exact ⟨(blk _ (by omega)).trans h.bc, (blk _ (by omega)).trans h.br, ⟨hg.os.trans h.bel.os, hg.tape.trans h.bel.tape, hg.output.trans h.bel.output, Nat.le_trans h.bel.size hg.size, fun b hb => (blk b (by omega)).trans (h.bel.block b hb)⟩, Nat.le_trans hz hg.size⟩
theorem RnJ.below {d ar : Int} {w : World} {r : Value} {W W' : World} (h : RnJ d ar w r W) (b : Below W.heap.size W W') : RnJ d ar w r W' :=
  have hz := h.sz
  ⟨(b.block _ (by omega)).trans h.bc, (b.block _ (by omega)).trans h.br, h.bel.trans (b.mono (by omega)), Nat.le_trans hz b.size⟩
theorem RnJ.set {d ar : Int} {w : World} {r : Value} {W : World} (h : RnJ d ar w r W) (v : Value) : RnJ d ar w v (W.setCell ⟨w.heap.size + 1, 0, none⟩ v) := by
  have hg := grownBy_setCell' W (w.heap.size + 1) v
  have hz := h.sz
  have ne : ∀ b, b < w.heap.size + 1 → some b ≠ some (w.heap.size + 1) := fun b hb e => by
    injection e with e
    omega
  have blk : ∀ b, b < w.heap.size + 1 → (W.setCell ⟨w.heap.size + 1, 0, none⟩ v).heap[b]? = W.heap[b]? := fun b hb => hg.block b (by omega) (ne b hb)
  exact ⟨(blk _ (by omega)).trans h.bc, h.br.set v, ⟨hg.os.trans h.bel.os, hg.tape.trans h.bel.tape, hg.output.trans h.bel.output, Nat.le_trans h.bel.size hg.size, fun b hb => (blk b (by omega)).trans (h.bel.block b hb)⟩, Nat.le_trans hz hg.size⟩
def RnI (d ar : Int) (w : World) (pre : List (Tx maxLen)) (W : World) : Prop := (pre.map (·.1)).all (okName d) = true ∧ RnJ d ar w (.bool false) W
def RnX (d ar : Int) (w : World) (c : Code) (pre : List (Tx maxLen)) (W : World) : Prop := c = .ret ∧ (pre.map (·.1)).all (okName d) = false ∧ RnJ d ar w (.bool false) W
theorem all_prefix_false {α : Type} {p l : List α} {f : α → Bool} (h : p <+: l) (hp : p.all f = false) : l.all f = false := by
  obtain ⟨t, rfl⟩ := h
  rw [List.all_append, hp, Bool.false_and]
set_option maxRecDepth 100000 in
set_option maxHeartbeats 4000000 in
theorem rname_any (d ar : Int) (s : ByteArray) (w : World) (hs : s.size ≤ maxLen) : Calls Tryz.prog 98 #[.agg #[.int .i64 d, .int .i64 ar], .string s] w fun e w' => e = .returned (.bool (okR d s)) ∧ Below w.heap.size w w' := by
  cases hd : d == 1 with
  | false =>
    have HO := Lib.hid (show okR d s = okName d s by unfold okR; rw [hd]; rfl)
    have hd1 : (d != 1) = true := by simpa using hd
    have B0 := Lib.hid (((Below.refl w.heap.size w).alloc (Nat.le_refl _) (.cells #[.int .i64 d, .int .i64 ar] 51)).alloc (by simp) (.cells #[.bool false] 4))
    have BX := Lib.hid (show Boxed ((w.alloc (.cells #[.int .i64 d, .int .i64 ar] 51)).alloc (.cells #[.bool false] 4)) (w.heap.size + 1) 4 (.bool false) by
      have := Boxed.new (w.alloc (.cells #[.int .i64 d, .int .i64 ar] 51)) 4 (.bool false)
      simpa using this)
    go_enter Tryz.func98, Tryz.ntmps98
    go_wp2_with fail
    refine (cname_any d ar s _ hs).mono ?_
    rintro e w1 ⟨rfl, b1⟩
    have hbx : Boxed w1 (w.heap.size + 1) 4 (.bool false) := (b1.block _ (by simp)).trans BX.out
    have hc := hbx.cell
    have hf := hbx.frozen
    have HB := Lib.hid hbx
    have B1 := Lib.hid (B0.out.trans (b1.mono (by simp; omega)))
    clear b1 hbx
    generalize hr : okName d s = r
    rw [hr] at HO
    go_wp2_with fail
    refine bodyPost_ret (v := .bool r) ?_ rfl ?_
    · exact results_cell1 (i := 4) (b := w.heap.size + 1) Tryz.results98 Tryz.isAgg4 rfl (HB.out.set _).cell
    · have hg := grownBy_setCell' w1 (w.heap.size + 1) (.bool r)
      have ne : ∀ b, b < w.heap.size → some b ≠ some (w.heap.size + 1) := fun b hb e => by
        injection e with e
        omega
      exact ⟨by rw [HO.out], ⟨hg.os.trans B1.out.os, hg.tape.trans B1.out.tape, hg.output.trans B1.out.output, Nat.le_trans B1.out.size hg.size, fun b hb => (hg.block b (Nat.lt_of_lt_of_le hb B1.out.size) (ne b hb)).trans (B1.out.block b hb)⟩⟩
  | true =>
    have hd1 : (d != 1) = false := by simpa using hd
    have HO := Lib.hid (show okR d s = (parts s).all (okName d) by unfold okR; rw [hd]; rfl)
    obtain ⟨W0, hW0⟩ : ∃ W0, W0 = ((w.alloc (.cells #[.int .i64 d, .int .i64 ar] 51)).alloc (.cells #[.bool false] 4)).alloc (.cells #[.string s] 9) := ⟨_, rfl⟩
    have z1 : (w.alloc (.cells #[.int .i64 d, .int .i64 ar] 51)).heap.size = w.heap.size + 1 := by simp
    have z2 : ((w.alloc (.cells #[.int .i64 d, .int .i64 ar] 51)).alloc (.cells #[.bool false] 4)).heap.size = w.heap.size + 2 := by simp
    have b0 : Below w.heap.size w W0 := by rw [hW0]; exact (((Below.refl _ w).alloc (Nat.le_refl _) _).alloc (by simp) _).alloc (by simp; omega) _
    have q0 : W0.heap.size = w.heap.size + 3 := by rw [hW0]; simp
    have bC : W0.heap[w.heap.size]? = some (.cells #[.int .i64 d, .int .i64 ar] 51 (0, 0)) := by
      have e1 := heap_new w (.cells #[.int .i64 d, .int .i64 ar] 51)
      have e2 := ((Below.refl (w.heap.size + 1) (w.alloc (.cells #[.int .i64 d, .int .i64 ar] 51))).alloc (by simp) (.cells #[.bool false] 4)).alloc (by simp) (.cells #[.string s] 9)
      rw [hW0]
      exact (e2.block _ (by omega)).trans e1
    have bR : Boxed W0 (w.heap.size + 1) 4 (.bool false) := by
      have := (Boxed.new (w.alloc (.cells #[.int .i64 d, .int .i64 ar] 51)) 4 (.bool false)).alloc (.cells #[.string s] 9)
      rw [z1] at this
      rw [hW0]
      exact this
    have bS : Boxed W0 (w.heap.size + 2) 9 (.string s) := by
      have := Boxed.new ((w.alloc (.cells #[.int .i64 d, .int .i64 ar] 51)).alloc (.cells #[.bool false] 4)) 9 (.string s)
      rw [z2] at this
      rw [hW0]
      exact this
    have HJ0 := Lib.hid (show RnI d ar w [] W0 from ⟨rfl, bC, bR, b0, by omega⟩)
    clear bC bR b0 z1 z2
    refine (callsIn_wide (n := 3)).1 ?_
    refine callsIn_of_wp_marks Tryz.func98 rfl trivial ?_ rfl
    simp only [Tryz.ntmps98, List.size_toArray, List.length_cons, List.length_nil, Nat.reduceAdd, Nat.reduceSub, Array.replicate_succ, Array.replicate_zero, List.push_toArray, List.append_toArray, List.nil_append, List.cons_append]
    gi_wp2_with (refine ⟨trivial, ?_⟩; gi_at_call 121; refine (callsIn_wide.2 (partsF_any s _)).mono ?_; rintro e w' ⟨rfl, rfl⟩)
    rw [← hW0]
    refine wpIn_rangeFunc_ownG rfl (by omega) (gf := 140) (lb := #[.pointer (some ⟨w.heap.size + 2, 0, none⟩)]) rfl trivial (enters_of Tryz.func140 (by kernel_rfl) rfl)
      (parts_stops maxLen (Nat.le_refl _) _ (by omega) (w.heap.size + 2) s hs (fun _ _ => True) W0 bS.cell) (fun _ _ => trivial) (fun _ _ _ _ _ _ _ _ => trivial) (Below.refl _ _) (fun _ => rfl)
      (RnI d ar w)
      (RnX d ar w)
      (fun (pre : List (Tx maxLen)) A B row hsx hg hr => ⟨hsx.1, hsx.2.same hg fun r e => by have := (hr r e).1; omega⟩)
      (fun c (pre : List (Tx maxLen)) A B row hsx hg hr => ⟨hsx.1, hsx.2.1, hsx.2.2.same hg fun r e => by have := (hr r e).1; omega⟩)
      HJ0.out
      (fun x => { tmps := #[.agg #[.int .i64 d, .int .i64 ar], .string s, .pointer (some ⟨w.heap.size, 0, none⟩), undef, .pointer (some ⟨w.heap.size + 1, 0, none⟩), .string x.1, .pointer (some ⟨w.heap.size, 0, none⟩), .int .i64 d, .bool false, undef, undef, undef, .string s, .func (.func 140) #[] #[.pointer (some ⟨w.heap.size + 2, 0, none⟩)], .string x.1, undef, undef, undef, undef], defers := [] }) ?assign ?body ?done ?stop
    case assign =>
      intro l x W K hK
      gi_wp2
      exact hK
    case body =>
      rintro l pre x W ⟨hpl, hJ⟩ hlt
      have c0 := box_cells hJ.bc
      have hcn := Lib.hid (cname_any d ar x.1 W x.2)
      have HJ := Lib.hid hJ
      have HP := Lib.hid hpl
      have LC := Lib.hid (show ∀ j v, ([.int .i64 d, .int .i64 ar] : List Value)[j]? = some v → W.cell? ⟨w.heap.size, 0 + j, none⟩ = some v from fun j v hv => by rw [c0, Nat.zero_add]; simpa using hv)
      clear hJ hpl
      cases hx : okName d x.1 with
      | true =>
        rw [hx] at hcn
        have HA := Lib.hid (show ((pre ++ [x]).map (·.1)).all (okName d) = true by rw [List.map_append, List.all_append, HP.out]; simpa using hx)
        clear hx
        gi_wp2_with (refine ⟨trivial, ?_⟩; gi_at_call 67; refine (CallsIn.inRound l (callsIn_wide.2 hcn.out)).mono ?_; rintro e W2 ⟨rfl, b2⟩; have HJ2 := Lib.hid (HJ.out.below b2); have hc2 := HJ2.out.br.cell; have hf2 := HJ2.out.br.frozen; have KF := Lib.hid (show KeepsFrom W0.heap.size W W2 from ⟨b2.size, fun k o _ hk _ => (b2.block k (heap_lt hk)).trans hk⟩); clear b2)
        exact ⟨KF.out, trivial, HA.out, HJ2.out⟩
      | false =>
        rw [hx] at hcn
        have HA := Lib.hid (show ((pre ++ [x]).map (·.1)).all (okName d) = false by rw [List.map_append, List.all_append]; simp [hx])
        clear hx
        gi_wp2_with (refine ⟨trivial, ?_⟩; gi_at_call 67; refine (CallsIn.inRound l (callsIn_wide.2 hcn.out)).mono ?_; rintro e W2 ⟨rfl, b2⟩; have HJ2 := Lib.hid (HJ.out.below b2); have hc2 := HJ2.out.br.cell; have hf2 := HJ2.out.br.frozen; have KF := Lib.hid (show KeepsFrom W0.heap.size W W2 from ⟨b2.size, fun k o _ hk _ => (b2.block k (heap_lt hk)).trans hk⟩); clear b2)
        exact ⟨KF.out.trans (KeepsFrom.of_grownBy (grownBy_setCell' W2 (w.heap.size + 1) (.bool false)) (fun j e => by injection e with e; omega)), rfl, HA.out, HJ2.out.set _⟩
    case done =>
      rintro D xs W hD hxs ⟨hpl, hJ⟩ hK
      have HN := Lib.hid (show (parts s).all (okName d) = true by rw [← hxs]; exact hpl)
      have hc := hJ.br.cell
      have hf := hJ.br.frozen
      have HJ1 := Lib.hid (hJ.set (.bool true))
      have HK1 := Lib.hid (show (W.setCell ⟨w.heap.size + 1, 0, none⟩ (.bool true)).heap[D]? = some (.deferred (some [])) from ((grownBy_setCell' W (w.heap.size + 1) (.bool true)).block D (heap_lt hK) (fun e => by injection e with e; omega)).trans hK)
      clear hJ hK hpl hxs
      gi_wp2
      have HJ2 := Lib.hid (RnJ.same HJ1.out (grownBy_putObj' _ D (.deferred none)) (fun b e => by injection e with e; omega))
      refine ⟨by simp, .inl ⟨_, _, rfl, run_takeDeferred HK1.out, ?_⟩⟩
      refine ⟨_, results_cell1 (i := 4) (b := w.heap.size + 1) Tryz.results98 Tryz.isAgg4 rfl HJ2.out.br.cell, ?_⟩
      exact ⟨by rw [HO.out, HN.out], HJ2.out.bel⟩
    case stop =>
      rintro D c pre W hD hSp ⟨rfl, hn, hJ⟩ hK
      have HN := Lib.hid (show (parts s).all (okName d) = false from all_prefix_false hSp hn)
      have HJ1 := Lib.hid hJ
      have HK1 := Lib.hid hK
      clear hJ hK hn hSp
      gi_wp2
      have HJ2 := Lib.hid (RnJ.same HJ1.out (grownBy_putObj' _ D (.deferred none)) (fun b e => by injection e with e; omega))
      refine ⟨by simp, .inl ⟨_, _, rfl, run_takeDeferred HK1.out, ?_⟩⟩
      refine ⟨_, results_cell1 (i := 4) (b := w.heap.size + 1) Tryz.results98 Tryz.isAgg4 rfl HJ2.out.br.cell, ?_⟩
      exact ⟨by rw [HO.out, HN.out], HJ2.out.bel⟩
end Go.Proofs.YtciijpahjjoppaaGreat
end
section
namespace Go.Proofs.YtciijpahjjoppaaGreat
open Go.RowKit Go.Deep
set_option maxRecDepth 100000 in
set_option maxHeartbeats 1000000 in
theorem allE_any (w0 : World) (g : Nat) (c : Value) (f : List D → Bool) (a : Option Addr) (len cap : Nat) (l : List (List D)) (hA : At w0 (.slice a len cap) (.row l)) (hs : ∀ x ∈ l, ShE x) (hf : OkFn w0 g c l f) (eg : ∀ args w, (callFunc g args).run Tryz.prog w = .ok (.enter g args) w) (W : World) (hW : Below w0.heap.size w0 W) :
    Calls Tryz.prog 64 #[.slice a len cap, .func (.func g) #[c] #[]] W fun e W' => e = .returned (.bool (okAll l f)) ∧ Below W.heap.size W W' := by
  have HA := Lib.hid hA
  have HS := Lib.hid hs
  have HF := Lib.hid hf
  have HW := Lib.hid hW
  have hle := hA.len_le
  have HL := Lib.hid hA.len_eq.1
  clear hA hs hf hW
  by_cases hbig : 512 < len
  · have hd : decide ((512 : Int) < (len : Int)) = true := by simp; omega
    have HO := Lib.hid (okAll_long (f := f) (show 512 < l.length by rw [HL.out]; exact hbig))
    go_enter Tryz.func64, Tryz.ntmps64
    go_wp2_with fail
    go_ret
    exact ⟨by rw [HO.out]; rfl, Below.refl _ _⟩
  · have hd : decide ((512 : Int) < (len : Int)) = false := by simp; omega
    go_enter Tryz.func64, Tryz.ntmps64
    go_wp2_with fail
    go_loopw [12] (fun i wr => ∃ k : Nat, k ≤ len ∧ i = .int .i64 k ∧ (l.take k).all f = true ∧ Below W.heap.size W wr) (fun i _ => len - (intOf i).toNat)
    case atStart => exact ⟨0, Nat.zero_le _, rfl, rfl, Below.refl _ _⟩
    case round =>
      obtain ⟨k, hk, rfl, ht, hb⟩ := hrel
      have HT := Lib.hid ht
      have HB := Lib.hid hb
      clear ht hb
      by_cases hlt : k < len
      · obtain ⟨b, o, vs, ds, rfl, hbl, hx, hv, hc⟩ := HA.out.elem hlt
        have hfn := HF.out ds (List.mem_of_getElem? hx) vs hv
        have hdl : ds.length = 5 := (HS.out _ (List.mem_of_getElem? hx)).ln
        rw [hdl] at hc
        have hvl := Lib.hid (hv.len.trans hdl)
        have hvo := Lib.hid hv.one
        clear hdl hv
        have B0 := HW.out.trans (HB.out.mono HW.out.size)
        have hbw : b < wr.heap.size := Nat.lt_of_lt_of_le hbl B0.size
        have C0 := Lib.hid (show ∀ j v, vs[j]? = some v → wr.cell? ⟨b, o + k * 5 + j, none⟩ = some v from fun j v hv => (B0.cell (p := ⟨b, o + k * 5 + j, none⟩) hbl).trans (hc j v hv))
        have N1 := (Below.refl wr.heap.size wr).alloc (Nat.le_refl _) (.cells ⟨vs⟩ 24)
        have C2 := Lib.hid (show ∀ j v, vs[j]? = some v → (wr.alloc (.cells ⟨vs⟩ 24)).cell? ⟨wr.heap.size, 0 + j, none⟩ = some v from fun j v hv => by
          rw [box_cells (heap_new wr (.cells ⟨vs⟩ 24))]
          simpa using hv)
        have FN := Lib.hid (hfn _ (B0.trans (N1.mono B0.size)))
        have HR := Lib.hid (HB.out.trans (N1.mono HB.out.size))
        have HX := Lib.hid hx
        clear hfn hx B0 hc N1
        go_wp2_with (first
          | ((with_reducible refine wp_loadAgg (o := ⟨some 15, _, _, _, _, _⟩) rfl (.tmp 14) 24 rfl 5 Tryz.isAgg24 Tryz.sizeOf24 b (o + k * 5) ?_ vs hvl.out C0.out ?_); rfl)
          | ((with_reducible refine wp_storeNew (o := ⟨none, .store 24 (.tmp 6) (.tmp 15), _, _, _, _⟩) rfl (.tmp 6) (.tmp 15) 24 rfl 5 Tryz.sizeOf24 _ ?_ ?_ vs ?_ hvl.out hvo.out ?_); rfl; rfl; rfl)
          | ((with_reducible refine wp_loadAgg (o := ⟨some 17, _, _, _, _, _⟩) rfl (.tmp 6) 24 rfl 5 Tryz.isAgg24 Tryz.sizeOf24 wr.heap.size 0 ?_ vs hvl.out C2.out ?_); rfl))
        refine FN.out.mono ?_
        rintro e w3 ⟨rfl, b3⟩
        have HB4 := Lib.hid (HR.out.trans (b3.mono HR.out.size))
        clear b3
        cases hsm : f ds with
        | true =>
          have HE := Lib.hid (all_take_succ HX.out HT.out hsm)
          clear hsm
          go_wp2_with fail
          go_roundw
          case rel => exact ⟨k + 1, by omega, by go_num, HE.out, HB4.out⟩
          case measure => simp [intOf]; omega
        | false =>
          have HE := Lib.hid (okAll_bad HX.out hsm)
          clear hsm
          go_wp2_with fail
          go_ret
          exact ⟨by rw [HE.out]; rfl, HB4.out⟩
      · obtain rfl : k = len := by omega
        have HE := Lib.hid (okAll_good (l := l) (f := f) (by rw [HL.out]; omega) (by rw [HL.out]; exact HT.out))
        go_wp2_with fail
        go_ret
        exact ⟨by rw [HE.out]; rfl, HB.out⟩
end Go.Proofs.YtciijpahjjoppaaGreat
end
