/-
  Texts of this proof, put together.
-/
import Derived.Test.YtciijpahjjoppaaGreatPb8
import Derived.Deep.RegionHeld3
import Derived.Laws.AppendOwn
import Derived.OwnWalk
import Derived.Below
import Derived.Test.YtciijpahjjoppaaGreatPb1
section
namespace Go.Proofs.YtciijpahjjoppaaGreat
open Go.RowKit Go.Deep Go.Shelf Go.Maps

theorem owp_appS {o : Oper} {a : Act} {Q : Exit → Act → World → Prop} {K : Act → World → Prop} (sl x : Operand)
    (ho : o.op = .call { callee := .builtin .append, args := #[sl, x], argTypes := #[29, 29] })
    {base : Nat} {w : World} {v : Value} {ss : List ByteArray} (h : OwnS base w v ss) (hbase : base ≤ w.heap.size) {ad : Option Addr} {len cap : Nat} {ls : List ByteArray} (hl : IsStrs w ad len cap ls) (hs : a.eval sl = v) (hx : a.eval x = .slice ad len cap) (hb : ss.length + len ≤ 4000000)
    (hk : ∀ v' w', OwnS base w' v' (ss ++ ls) → w.grownBy w' v.ownBlock → K (a.put o.dst v') w') : Oper.wp Tryz.prog o a w K Q := by
  obtain ⟨v', w', hr, h2, h3⟩ := run_appS o.type h hbase hl hb
  unfold Oper.wp execOp
  simp only [ho, resolve, invoke, builtin, Sem.run_bind, Sem.run_pure, Result.andThen_ok, List.map_toArray, List.map_cons, List.map_nil, hs, hx, hr]
  exact hk v' w' h2 h3
set_option maxRecDepth 100000 in
set_option maxHeartbeats 4000000 in
theorem refExprNames_step (w0 : World) (N : Nat) (op kk : Int) (nm fd : ByteArray) (kl : List (List D)) (kla : Option Addr) (klc : Nat) (hz1 : nm.size ≤ 2000000) (hz2 : fd.size ≤ 2000000) (hA : At w0 (.slice kla kl.length klc) (.row kl)) (hs : ∀ x ∈ kl, ShE x) (hbk : (parts nm).length + ((parts fd).length + (kl.flatMap (nE N)).length) ≤ 2000000) (hzs : ∀ p ∈ parts nm ++ parts fd ++ kl.flatMap (nE N), p.size ≤ 2000000)
    (hrec : ∀ y ∈ kl, ∀ us, AllAt w0 us y → ∀ W, Below w0.heap.size w0 W → Calls Tryz.prog 96 #[.agg ⟨us⟩] W (NmsPost (nE N y) W)) (W : World) (hW : Below w0.heap.size w0 W) :
    Calls Tryz.prog 96 #[.agg ⟨[.int .i64 op, .int .i64 kk, .string nm, .string fd, .slice kla kl.length klc]⟩] W (NmsPost (parts nm ++ parts fd ++ kl.flatMap (nE N)) W) := by
  have HA := Lib.hid hA
  have HS := Lib.hid hs
  have HR := Lib.hid hrec
  have HZ := Lib.hid hzs
  have hle := hA.len_le
  have HW := Lib.hid (hW.alloc hW.size (.cells #[.int .i64 op, .int .i64 kk, .string nm, .string fd, .slice kla kl.length klc] 24))
  have BK := Lib.hid hbk
  have BXC := Lib.hid (fun (V : World) (hb : Below (W.heap.size + 1) (W.alloc (.cells #[.int .i64 op, .int .i64 kk, .string nm, .string fd, .slice kla kl.length klc] 24)) V) => box_cells ((hb.block W.heap.size (by omega)).trans (heap_new W (.cells #[.int .i64 op, .int .i64 kk, .string nm, .string fd, .slice kla kl.length klc] 24))))
  clear hA hs hrec hW hbk hzs
  go_enter Tryz.func96, Tryz.ntmps96
  go_wp2_with fail
  refine wp_region_held (S := fun w' => Below (W.heap.size + 1) (W.alloc (.cells #[.int .i64 op, .int .i64 kk, .string nm, .string fd, .slice kla kl.length klc] 24)) w') (by kernel_rfl) ?_
  have hHeld := below_drew0 (Below.refl (W.heap.size + 1) (W.alloc (.cells #[.int .i64 op, .int .i64 kk, .string nm, .string fd, .slice kla kl.length klc] 24)))
  change (fun w' => Below (W.heap.size + 1) (W.alloc (.cells #[.int .i64 op, .int .i64 kk, .string nm, .string fd, .slice kla kl.length klc] 24)) w') _ at hHeld
  refine wpAnyH_take (i := 0) (oi := ⟨some 5, .fieldAddr 24 (.tmp 1) 2, 0, "ref.go:357", #[], none⟩) (v := ?v0) rfl (by kernel_rfl) (by kernel_rfl) (by kernel_rfl) (fun _ _ _ h => h) (Or.inl ⟨by rfl, ?hy0⟩) hHeld ?rest0
  case hy0 => (intro V hSW; have cA := BXC.out V hSW; go_simp; try with_reducible rfl)
  try simp only [Act.put, List.setIfInBounds_toArray, List.set_cons_zero, List.set_cons_succ]
  refine wpAnyH_take (i := 1) (oi := ⟨some 6, .load 9 (.tmp 5), 9, "ref.go:357", #[⟨0, .data⟩], none⟩) (v := ?v1) rfl (by kernel_rfl) (by kernel_rfl) (by kernel_rfl) (fun _ _ _ h => h) (Or.inl ⟨by rfl, ?hy1⟩) hHeld ?rest1
  case hy1 => (intro V hSW; have cA := BXC.out V hSW; go_simp; try with_reducible rfl)
  try simp only [Act.put, List.setIfInBounds_toArray, List.set_cons_zero, List.set_cons_succ]
  refine wpAnyH_take (i := 3) (oi := ⟨some 8, .fieldAddr 24 (.tmp 1) 3, 0, "ref.go:357", #[], none⟩) (v := ?v3) rfl (by kernel_rfl) (by kernel_rfl) (by kernel_rfl) (fun _ _ _ h => h) (Or.inl ⟨by rfl, ?hy3⟩) hHeld ?rest3
  case hy3 => (intro V hSW; have cA := BXC.out V hSW; go_simp; try with_reducible rfl)
  try simp only [Act.put, List.setIfInBounds_toArray, List.set_cons_zero, List.set_cons_succ]
  refine wpAnyH_take (i := 4) (oi := ⟨some 9, .load 9 (.tmp 8), 9, "ref.go:357", #[⟨3, .data⟩], none⟩) (v := ?v4) rfl (by kernel_rfl) (by kernel_rfl) (by kernel_rfl) (fun _ _ _ h => h) (Or.inl ⟨by rfl, ?hy4⟩) hHeld ?rest4
  case hy4 => (intro V hSW; have cA := BXC.out V hSW; go_simp; try with_reducible rfl)
  try simp only [Act.put, List.setIfInBounds_toArray, List.set_cons_zero, List.set_cons_succ]
  refine wpAnyH_ready (rs := [2]) (by kernel_rfl) (by simp) ?_
  refine AllReadyH.cons (o := ⟨some 7, .call { callee := .value (.func 52), args := #[.tmp 6], argTypes := #[9] }, 29, "ref.go:357", #[⟨1, .data⟩], none⟩) rfl (fun K hK => ?_) AllReadyH.nil
  go_simp
  go_at_call 52
  refine (refPartsN nm hz1 _).mono ?_
  rintro e w2 ⟨a2, p2, rfl, s2, o2, b2⟩
  have hB2 : Below (W.heap.size + 1) (W.alloc (.cells #[.int .i64 op, .int .i64 kk, .string nm, .string fd, .slice kla kl.length klc] 24)) w2 := hHeld.trans (b2.mono (by simp))
  have J2 := Lib.hid (show AccJ (W.alloc (.cells #[.int .i64 op, .int .i64 kk, .string nm, .string fd, .slice kla kl.length klc] 24)) (.slice a2 (parts nm).length p2) (parts nm) w2 from ⟨o2.mono hHeld.size, by simpa using hB2⟩)
  clear hHeld s2 o2 b2
  have hHeld := hB2
  clear hB2
  refine hK.out _ _ hHeld (fun _ => ?_)
  clear hK K
  try simp only [Act.put, List.setIfInBounds_toArray, List.set_cons_zero, List.set_cons_succ]
  refine wpAnyH_ready (rs := [5]) (by kernel_rfl) (by simp) ?_
  refine AllReadyH.cons (o := ⟨some 10, .call { callee := .value (.func 52), args := #[.tmp 9], argTypes := #[9] }, 29, "ref.go:357", #[⟨4, .data⟩, ⟨2, .chain⟩], none⟩) rfl (fun K hK => ?_) AllReadyH.nil
  go_simp
  go_at_call 52
  refine (refPartsN fd hz2 _).mono ?_
  rintro e w3 ⟨a3, p3, rfl, s3, o3, b3⟩
  have hB3 : Below (W.heap.size + 1) (W.alloc (.cells #[.int .i64 op, .int .i64 kk, .string nm, .string fd, .slice kla kl.length klc] 24)) w3 := hHeld.trans (b3.mono (by have := hHeld.size; simpa using this))
  have J3 := Lib.hid (J2.out.step b3)
  have U3 := Lib.hid s3
  clear hHeld s3 o3 b3
  have hHeld := hB3
  clear hB3
  refine hK.out _ _ hHeld (fun _ => ?_)
  clear hK K
  try simp only [Act.put, List.setIfInBounds_toArray, List.set_cons_zero, List.set_cons_succ]
  refine wpAnyH_ready (rs := [6]) (by kernel_rfl) (by simp) ?_
  refine AllReadyH.cons (o := ⟨some 11, .call { callee := .builtin .append, args := #[.tmp 7, .tmp 10], argTypes := #[29, 29] }, 29, "ref.go:357", #[⟨2, .data⟩, ⟨5, .data⟩, ⟨5, .chain⟩], none⟩) rfl (fun K hK => ?_) AllReadyH.nil
  rw [if_pos (by rfl)]
  refine owp_appS (.tmp 7) (.tmp 10) rfl J3.out.own J3.out.bel.size U3.out rfl rfl (by have := BK.out; omega) ?_
  intro v4 w4 ho4 hg4
  have J4 := Lib.hid (J3.out.grown ho4 hg4)
  clear ho4 hg4 hHeld
  have hHeld : Below (W.heap.size + 1) (W.alloc (.cells #[.int .i64 op, .int .i64 kk, .string nm, .string fd, .slice kla kl.length klc] 24)) w4 := by simpa using J4.out.bel
  refine hK.out _ _ hHeld (fun _ => ?_)
  clear hK K
  try simp only [Act.put, List.setIfInBounds_toArray, List.set_cons_zero, List.set_cons_succ]
  refine wpAnyH_take (i := 7) (oi := ⟨some 3, .assign (.tmp 11), 29, "ref.go:357", #[⟨6, .data⟩, ⟨6, .chain⟩, ⟨0, .phase⟩, ⟨1, .phase⟩, ⟨2, .phase⟩, ⟨3, .phase⟩, ⟨4, .phase⟩, ⟨5, .phase⟩, ⟨6, .phase⟩], none⟩) (v := ?v7) rfl (by kernel_rfl) (by kernel_rfl) (by kernel_rfl) (fun _ _ _ h => h) (Or.inl ⟨by rfl, ?hy7⟩) hHeld ?rest7
  case hy7 => (intro V hSW; have cA := BXC.out V hSW; go_simp; try with_reducible rfl)
  try simp only [Act.put, List.setIfInBounds_toArray, List.set_cons_zero, List.set_cons_succ]
  refine wpAnyH_done (by kernel_rfl) ?_ _
  clear hHeld
  have cA := BXC.out w4 (by simpa using J4.out.bel)
  go_wp2_with fail
  go_loopw [3, 4] (fun u i wr => ∃ (k : Nat) (v : Value), k ≤ kl.length ∧ v = u ∧ i = .int .i64 k ∧ Hid (AccJ (W.alloc (.cells #[.int .i64 op, .int .i64 kk, .string nm, .string fd, .slice kla kl.length klc] 24)) v (parts nm ++ parts fd ++ (kl.take k).flatMap (nE N)) wr)) (fun _ i _ => kl.length - (intOf i).toNat)
  case atStart => exact ⟨0, _, Nat.zero_le _, rfl, rfl, by simpa using J4⟩
  case round =>
    obtain ⟨k, v, hk, rfl, rfl, HJ⟩ := hrel
    clear cA
    have cA := BXC.out wr (by simpa using HJ.out.bel)
    by_cases hlt : k < kl.length
    · obtain ⟨b, o, vs, ds, rfl, hbl, hx, hv, hc⟩ := HA.out.elem hlt
      have hdl : ds.length = 5 := (HS.out _ (List.mem_of_getElem? hx)).ln
      rw [hdl] at hc
      have hvl := Lib.hid (hv.len.trans hdl)
      have FN := Lib.hid (HR.out ds (List.mem_of_getElem? hx) vs hv)
      have BT := Lib.hid (take_flat (h := nE N) hx)
      have TK := Lib.hid (take_flat_succ (h := nE N) hx)
      have B0 := Lib.hid (HJ.out.on HW.out)
      have hbw : b < wr.heap.size := Nat.lt_of_lt_of_le hbl B0.out.size
      have C0 := Lib.hid (show ∀ j v, vs[j]? = some v → wr.cell? ⟨b, o + k * 5 + j, none⟩ = some v from fun j v hv => (B0.out.cell (p := ⟨b, o + k * 5 + j, none⟩) hbl).trans (hc j v hv))
      clear hx hdl hc hv
      go_wp2_with (first
        | ((with_reducible refine wp_loadAgg (o := ⟨some 24, _, _, _, _, _⟩) rfl (.tmp 23) 24 rfl 5 Tryz.isAgg24 Tryz.sizeOf24 b (o + k * 5) ?_ vs hvl.out C0.out ?_); rfl))
      refine (FN.out _ B0.out).mono ?_
      rintro e w5 ⟨a5, p5, rfl, s5, _, b5⟩
      have J5 := Lib.hid (HJ.out.step b5)
      have U5 := Lib.hid s5
      clear b5 s5 cA
      go_wp2_with (first
        | (refine wp_appS rfl (.tmp 19) (.tmp 25) rfl J5.out.own J5.out.bel.size U5.out rfl rfl (by have := BK.out; have := BT.out; simp only [List.length_append]; omega) ?_; intro v6 w6 ho hg; have w6A := Lib.hid (J5.out.grown ho hg); clear ho hg))
      go_roundw
      case rel => exact ⟨k + 1, v6, by omega, rfl, by go_num, by rw [TK.out, ← List.append_assoc]; exact w6A⟩
      case measure => simp [intOf]; omega
    · obtain rfl : k = kl.length := by omega
      have HE := HJ.out
      rw [List.take_length] at HE
      obtain ⟨a', cap', rfl, HP⟩ := nms_done HE HZ.out
      have HP := Lib.hid HP
      clear HE HJ
      go_wp2_with fail
      go_ret
      obtain ⟨a7, p7, he, h1, h2, h3⟩ := HP.out
      exact ⟨a7, p7, he, h1, h2.mono (by simp), ((Below.refl W.heap.size W).alloc (Nat.le_refl _) _).trans (h3.mono (by simp))⟩
theorem refExprNames_any (w0 : World) : ∀ (N : Nat) (x : List D) (vs : List Value), ShE x → mRow x < N → mRow x ≤ 2000000 → AllAt w0 vs x → ∀ W, Below w0.heap.size w0 W → Calls Tryz.prog 96 #[.agg ⟨vs⟩] W (NmsPost (nE N x) W)
  | 0, _, _, _, h, _, _, _, _ => absurd h (Nat.not_lt_zero _)
  | N + 1, x, vs, hx, hn, hb, hv, W, hW => by
    have ok := nE_ok (N + 1) hx
    obtain ⟨op, kk, nm, fd, kl, kla, klc, rfl, rfl, _, _, _, _, akl, skl⟩ := hv.openE hx
    have e : nE (N + 1) [.int op, .int kk, .str nm, .str fd, .row kl] = parts nm ++ parts fd ++ kl.flatMap (nE N) := by rw [List.append_assoc]; rfl
    have hl := ok.1
    rw [e] at ok hl ⊢
    simp only [mRow, mD] at hb hn
    have hmx : mRow [.int op, .int kk, .str nm, .str fd, .row kl] ≤ 2000000 := by simp only [mRow, mD]; omega
    exact refExprNames_step w0 N op kk nm fd kl kla klc (by omega) (by omega) akl skl (by simp only [List.length_append] at hl; omega) (fun p hp => by have := ok.2 p hp; omega) (fun y hy us hu U hU => refExprNames_any w0 N y us (skl y hy) (by have := mRows_mem hy; omega) (by have := mRows_mem hy; omega) hu U hU) W hW
end Go.Proofs.YtciijpahjjoppaaGreat
end
section
namespace Go.Proofs.YtciijpahjjoppaaGreat
open Go.RowKit Go.Deep Go.Shelf Go.Maps

set_option maxRecDepth 100000 in
set_option maxHeartbeats 4000000 in
theorem refVarNames_any (w0 : World) (a : Option Addr) (len cap : Nat) (l : List (List D)) (hA : At w0 (.slice a len cap) (.row l)) (hs : ∀ x ∈ l, ShV x) (hb : mRows l ≤ 2000000) (W : World) (hW : Below w0.heap.size w0 W) :
    Calls Tryz.prog 53 #[.slice a len cap] W (NmsPost (l.flatMap nV) W) := by
  have HA := Lib.hid hA
  have HS := Lib.hid hs
  have HW := Lib.hid hW
  have hle := hA.len_le
  have HL := Lib.hid hA.len_eq.1
  have HT := Lib.hid (flat_len (h := nV) l fun y hy => (nV_ok (hs y hy)).1)
  have HZ := Lib.hid (flat_sz (h := nV) l (fun y hy => (nV_ok (hs y hy)).2) hb)
  have HBM := Lib.hid hb
  clear hA hs hW hb
  go_enter Tryz.func53, Tryz.ntmps53
  go_wp2_with fail
  go_loopw [3, 4] (fun u i wr => ∃ (k : Nat) (v : Value), k ≤ len ∧ v = u ∧ i = .int .i64 k ∧ Hid (AccJ W v ((l.take k).flatMap nV) wr)) (fun _ i _ => len - (intOf i).toNat)
  case atStart => exact ⟨0, _, Nat.zero_le _, rfl, rfl, Lib.hid (AccJ.start W)⟩
  case round =>
    obtain ⟨k, v, hk, rfl, rfl, HJ⟩ := hrel
    by_cases hlt : k < len
    · obtain ⟨b, o, vs, ds, rfl, hbl, hx, hv, hc⟩ := HA.out.elem hlt
      obtain ⟨m0, m1, nm, kd, sz, tn, m0a, m0c, m1a, m1c, hds, hvs, _⟩ := hv.openV (HS.out _ (List.mem_of_getElem? hx))
      subst hvs
      have hdl : ds.length = 6 := by rw [hds]; rfl
      rw [hdl] at hc
      have hbm := mRows_mem (List.mem_of_getElem? hx)
      rw [hds] at hbm
      simp only [mRow, mD] at hbm
      have hz1 : nm.size ≤ 2000000 := by have := HBM.out; omega
      have hz2 : tn.size ≤ 2000000 := by have := HBM.out; omega
      have BK := Lib.hid (show ((l.take k).flatMap nV).length + ((parts nm).length + (parts tn).length) ≤ 2000000 by have := take_flat (h := nV) hx; rw [hds] at this; simp only [nV, List.length_append] at this; have := HT.out; have := HBM.out; omega)
      have TK := Lib.hid (show (l.take (k + 1)).flatMap nV = ((l.take k).flatMap nV ++ parts nm) ++ parts tn by rw [take_flat_succ hx, hds, List.append_assoc]; rfl)
      have HC2 := Lib.hid (hc 2 _ rfl)
      have HC5 := Lib.hid (hc 5 _ rfl)
      have hbw : b < wr.heap.size := Nat.lt_of_lt_of_le hbl (HJ.out.on HW.out).size
      have c2 := ((HJ.out.on HW.out).cell (p := ⟨b, o + k * 6 + 2, none⟩) hbl).trans HC2.out
      clear hx hds hdl hc hv hbm
      go_wp2_with fail
      refine (refPartsN nm hz1 _).mono ?_
      rintro e w1 ⟨a1, p1, rfl, s1, _, b1⟩
      have J1 := Lib.hid (HJ.out.step b1)
      have U1 := Lib.hid s1
      clear b1 s1 c2
      go_wp2_with (first
        | (refine wp_appS rfl (.tmp 11) (.tmp 17) rfl J1.out.own J1.out.bel.size U1.out rfl rfl (by have := BK.out; omega) ?_; intro v2 w2 ho hg; have w2A := Lib.hid (J1.out.grown ho hg); clear ho hg; have hbw2 : b < w2.heap.size := Nat.lt_of_lt_of_le hbl (w2A.out.on HW.out).size; have c5 := ((w2A.out.on HW.out).cell (p := ⟨b, o + k * 6 + 5, none⟩) hbl).trans HC5.out))
      refine (refPartsN tn hz2 _).mono ?_
      rintro e w3 ⟨a3, p3, rfl, s3, _, b3⟩
      have J3 := Lib.hid (w2A.out.step b3)
      have U3 := Lib.hid s3
      clear b3 s3 c5
      go_wp2_with (first
        | (refine wp_appS rfl (.tmp 19) (.tmp 26) rfl J3.out.own J3.out.bel.size U3.out rfl rfl (by have := BK.out; simp only [List.length_append]; omega) ?_; intro v4 w4 ho hg; have w4A := Lib.hid (J3.out.grown ho hg); clear ho hg))
      go_roundw
      case rel => exact ⟨k + 1, v4, by omega, rfl, by go_num, by rw [TK.out]; exact w4A⟩
      case measure => simp [intOf]; omega
    · obtain rfl : k = len := by omega
      have HE := HJ.out
      rw [show l.take k = l by rw [← HL.out, List.take_length]] at HE
      obtain ⟨a', cap', rfl, HP⟩ := nms_done HE (HZ.out)
      have HP := Lib.hid HP
      clear HE HJ
      go_wp2_with fail
      go_ret
      exact HP.out
end Go.Proofs.YtciijpahjjoppaaGreat
end
section
namespace Go.Proofs.YtciijpahjjoppaaGreat
open Go.RowKit Go.Deep Go.Shelf Go.Maps

set_option maxRecDepth 100000 in
set_option maxHeartbeats 16000000 in
theorem refStmtNames_step (w0 : World) (N : Nat) (a : Option Addr) (len cap : Nat) (l : List (List D)) (hA : At w0 (.slice a len cap) (.row l)) (hs : ∀ x ∈ l, ShS x) (hb : mRows l ≤ 2000000) (hlt : ∀ x ∈ l, mRow x < N + 1)
    (hrec : ∀ x ∈ l, ∀ l2, D.row l2 ∈ x → (∀ y ∈ l2, ShS y) → ∀ a2 cap2, At w0 (.slice a2 l2.length cap2) (.row l2) → ∀ W, Below w0.heap.size w0 W → Calls Tryz.prog 55 #[.slice a2 l2.length cap2] W (NmsPost (l2.flatMap (nS N)) W)) (W : World) (hW : Below w0.heap.size w0 W) :
    Calls Tryz.prog 55 #[.slice a len cap] W (NmsPost (l.flatMap (nS (N + 1))) W) := by
  have HA := Lib.hid hA
  have HS := Lib.hid hs
  have HW := Lib.hid hW
  have HR := Lib.hid hrec
  have HLT := Lib.hid hlt
  have hle := hA.len_le
  have HL := Lib.hid hA.len_eq.1
  have HT := Lib.hid (flat_len (h := nS (N + 1)) l fun y hy => (nS_ok (N + 1) (hs y hy)).1)
  have HZ := Lib.hid (flat_sz (h := nS (N + 1)) l (fun y hy => (nS_ok (N + 1) (hs y hy)).2) hb)
  have HBM := Lib.hid hb
  clear hA hs hW hb hrec hlt
  go_enter Tryz.func55, Tryz.ntmps55
  go_wp2_with fail
  go_loopw [3, 4] (fun u i wr => ∃ (k : Nat) (v : Value), k ≤ len ∧ v = u ∧ i = .int .i64 k ∧ Hid (AccJ W v ((l.take k).flatMap (nS (N + 1))) wr)) (fun _ i _ => len - (intOf i).toNat)
  case atStart => exact ⟨0, _, Nat.zero_le _, rfl, rfl, Lib.hid (AccJ.start W)⟩
  case round =>
    obtain ⟨k, v, hk, rfl, rfl, HJ⟩ := hrel
    by_cases hlt : k < len
    · obtain ⟨b, o, vs, ds, rfl, hbl, hx, hv, hc⟩ := HA.out.elem hlt
      have hmem := List.mem_of_getElem? hx
      have hrl := HR.out ds hmem
      have hltd := HLT.out ds hmem
      obtain ⟨m0, m1, op, nm, pop, pn, pnm, pfd, pl, ex, dn, mo, bd, el, en, e2, m0a, m0c, m1a, m1c, pla, plc, exa, exc, bda, bdc, ela, elc, ena, enc, e2a, e2c, hds, hvs, _, _, _, _, ⟨p1, p2⟩, ⟨p3, p4⟩, p5, p6, a_pl, a_ex, a_bd, a_el, _, _, _, _, t_pl, t_ex, t_bd, t_el, _⟩ := hv.openS (HS.out _ hmem)
      subst hvs
      have hdl : ds.length = 16 := by rw [hds]; rfl
      rw [hdl] at hc
      have HCJ := Lib.hid (fun (j : Nat) (u : Value) (h : ([.slice m0a m0.length m0c, .slice m1a m1.length m1c, .int .i64 op, .string nm, .int .i64 pop, .int .i64 pn, .string pnm, .string pfd, .slice pla pl.length plc, .slice exa ex.length exc, .bool dn, .bool mo, .slice bda bd.length bdc, .slice ela el.length elc, .slice ena en.length enc, .slice e2a e2.length e2c] : List Value)[j]? = some u) (V : World) (hb : Below w0.heap.size w0 V) => ((hb.cell (p := ⟨b, o + k * 16 + j, none⟩) hbl).trans (hc j u h)))
      have hbm := mRows_mem hmem
      rw [hds] at hbm hltd
      simp only [mRow, mD] at hbm hltd
      have hz1 : nm.size ≤ 2000000 := by have := HBM.out; omega
      have KP := Lib.hid (fun (V : World) (hV : Below w0.heap.size w0 V) => refExprNames_any w0 (N + 1) [.int pop, .int pn, .str pnm, .str pfd, .row pl] [.int .i64 pop, .int .i64 pn, .string pnm, .string pfd, .slice pla pl.length plc] (.mk pop pn pnm pfd pl t_pl) (by simp only [mRow, mD]; omega) (by have := HBM.out; simp only [mRow, mD]; omega) ⟨.int pop p1 p2, .int pn p3 p4, .str pnm p5, .str pfd p6, a_pl, trivial⟩ V hV)
      have KE := Lib.hid (fun y (hy : y ∈ ex) us hu V hV => refExprNames_any w0 (N + 1) y us (t_ex y hy) (by have := mRows_mem hy; omega) (by have := mRows_mem hy; have := HBM.out; omega) hu V hV)
      have KB := Lib.hid (hrl bd (by rw [hds]; simp) t_bd bda bdc a_bd)
      have KL := Lib.hid (hrl el (by rw [hds]; simp) t_el ela elc a_el)
      have AE := Lib.hid a_ex
      have TE := Lib.hid t_ex
      have hlex := a_ex.len_le
      have ET := Lib.hid (show nS (N + 1) ds = parts nm ++ (nE (N + 1) [.int pop, .int pn, .str pnm, .str pfd, .row pl] ++ (ex.flatMap (nE (N + 1)) ++ (bd.flatMap (nS N) ++ el.flatMap (nS N)))) by rw [hds]; simp only [nS, nE, List.append_assoc])
      have BK := Lib.hid (show ((l.take k).flatMap (nS (N + 1))).length + ((parts nm).length + ((nE (N + 1) [.int pop, .int pn, .str pnm, .str pfd, .row pl]).length + ((ex.flatMap (nE (N + 1))).length + ((bd.flatMap (nS N)).length + (el.flatMap (nS N)).length)))) ≤ 2000000 by have := take_flat (h := nS (N + 1)) hx; rw [ET.out] at this; simp only [List.length_append] at this; have := HT.out; have := HBM.out; omega)
      have TK := Lib.hid (show (l.take (k + 1)).flatMap (nS (N + 1)) = (((((l.take k).flatMap (nS (N + 1)) ++ parts nm) ++ nE (N + 1) [.int pop, .int pn, .str pnm, .str pfd, .row pl]) ++ ex.flatMap (nE (N + 1))) ++ bd.flatMap (nS N)) ++ el.flatMap (nS N) by rw [take_flat_succ hx, ET.out]; simp only [List.append_assoc])
      have BTE := Lib.hid (fun (j : Nat) (y : List D) (hy : ex[j]? = some y) => take_flat (h := nE (N + 1)) hy)
      have TKE := Lib.hid (fun (j : Nat) (y : List D) (hy : ex[j]? = some y) => take_flat_succ (h := nE (N + 1)) hy)
      clear hx hds hdl hc hv hbm hmem hrl hltd p1 p2 p3 p4 p5 p6 a_pl a_ex a_bd a_el t_pl t_ex t_bd t_el
      generalize hnP : nE (N + 1) [.int pop, .int pn, .str pnm, .str pfd, .row pl] = nP' at *
      generalize hnB : bd.flatMap (nS N) = nB at *
      generalize hnL : el.flatMap (nS N) = nL at *
      clear hnP hnB hnL
      have bw := Nat.lt_of_lt_of_le hbl (HJ.out.on HW.out).size
      have c3 := HCJ.out 3 _ rfl _ (HJ.out.on HW.out)
      go_wp2_with fail
      refine (refPartsN nm hz1 _).mono ?_
      rintro e w1 ⟨a1, p1, rfl, s1, _, b1⟩
      have J1 := Lib.hid (HJ.out.step b1)
      have U1 := Lib.hid s1
      clear b1 s1 c3 bw
      go_wp2_with (first
        | (refine wp_appS rfl (.tmp 12) (.tmp 18) rfl J1.out.own J1.out.bel.size U1.out rfl rfl (by have := BK.out; omega) ?_; intro v2 w2 ho hg; have w2A := Lib.hid (J1.out.grown ho hg); clear ho hg; have bw := Nat.lt_of_lt_of_le hbl (w2A.out.on HW.out).size; have CP := Lib.hid (show ∀ j u, ([.int .i64 pop, .int .i64 pn, .string pnm, .string pfd, .slice pla pl.length plc] : List Value)[j]? = some u → w2.cell? ⟨b, o + k * 16 + 4 + j, none⟩ = some u from fun j u h => by rw [Nat.add_assoc]; exact HCJ.out (4 + j) u (by have hj : j < 5 := (List.getElem?_eq_some_iff.1 h).1; match j, hj with | 0, _ => exact h | 1, _ => exact h | 2, _ => exact h | 3, _ => exact h | 4, _ => exact h) _ (w2A.out.on HW.out)))
        | ((with_reducible refine wp_loadAgg (o := ⟨some 25, _, _, _, _, _⟩) rfl (.tmp 24) 24 rfl 5 Tryz.isAgg24 Tryz.sizeOf24 b (o + k * 16 + 4) ?_ [.int .i64 pop, .int .i64 pn, .string pnm, .string pfd, .slice pla pl.length plc] rfl CP.out ?_); rfl))
      refine (KP.out _ (w2A.out.on HW.out)).mono ?_
      rintro e w3 ⟨a3, p3, rfl, s3, _, b3⟩
      have J3 := Lib.hid (w2A.out.step b3)
      have U3 := Lib.hid s3
      clear b3 s3 bw CP
      go_wp2_with (first
        | (refine wp_appS rfl (.tmp 20) (.tmp 26) rfl J3.out.own J3.out.bel.size U3.out rfl rfl (by have := BK.out; simp only [List.length_append]; omega) ?_; intro v4 w4 ho hg; have w4A := Lib.hid (J3.out.grown ho hg); clear ho hg))
      obtain ⟨wo, hwo⟩ : ∃ wo, wo = wr := ⟨_, rfl⟩
      clear hwo
      go_loopw [3, 5] (fun u i wr => ∃ (j : Nat) (v : Value), j ≤ ex.length ∧ v = u ∧ i = .int .i64 j ∧ Hid (AccJ W v (((l.take k).flatMap (nS (N + 1)) ++ parts nm ++ nP') ++ (ex.take j).flatMap (nE (N + 1))) wr)) (fun _ i _ => ex.length - (intOf i).toNat)
      case atStart => exact ⟨0, _, Nat.zero_le _, rfl, rfl, by simpa using w4A⟩
      case round =>
        obtain ⟨j, v5, hj, rfl, rfl, HJE⟩ := hrel
        have bw := Nat.lt_of_lt_of_le hbl (HJE.out.on HW.out).size; have c9 := HCJ.out 9 _ rfl _ (HJE.out.on HW.out); have c12 := HCJ.out 12 _ rfl _ (HJE.out.on HW.out); have c13 := HCJ.out 13 _ rfl _ (HJE.out.on HW.out)
        by_cases hjt : j < ex.length
        · obtain ⟨b2, o2, us, es, rfl, hbl2, hy, hu, hc2⟩ := AE.out.elem hjt
          have hel : es.length = 5 := (TE.out _ (List.mem_of_getElem? hy)).ln
          rw [hel] at hc2
          have hul := Lib.hid (hu.len.trans hel)
          have FN := Lib.hid (KE.out es (List.mem_of_getElem? hy) us hu)
          have BT := Lib.hid (BTE.out j es hy)
          have TE2 := Lib.hid (TKE.out j es hy)
          have bw2 := Nat.lt_of_lt_of_le hbl2 (HJE.out.on HW.out).size
          have C2 := Lib.hid (show ∀ i u, us[i]? = some u → wr.cell? ⟨b2, o2 + j * 5 + i, none⟩ = some u from fun i u h => ((HJE.out.on HW.out).cell (p := ⟨b2, o2 + j * 5 + i, none⟩) hbl2).trans (hc2 i u h))
          clear hy hu hc2 hel
          go_wp2_with (first
            | ((with_reducible refine wp_loadAgg (o := ⟨some 46, _, _, _, _, _⟩) rfl (.tmp 45) 24 rfl 5 Tryz.isAgg24 Tryz.sizeOf24 b2 (o2 + j * 5) ?_ us hul.out C2.out ?_); rfl))
          refine (FN.out _ (HJE.out.on HW.out)).mono ?_
          rintro e w5 ⟨a5, p5, rfl, s5, _, b5⟩
          have J5 := Lib.hid (HJE.out.step b5)
          have U5 := Lib.hid s5
          clear b5 s5 c9 c12 c13 bw bw2
          go_wp2_with (first
            | (refine wp_appS rfl (.tmp 38) (.tmp 47) rfl J5.out.own J5.out.bel.size U5.out rfl rfl (by have := BK.out; have := BT.out; simp only [List.length_append]; omega) ?_; intro v6 w6 ho hg; have w6A := Lib.hid (J5.out.grown ho hg); clear ho hg))
          go_roundw
          case rel => exact ⟨j + 1, v6, by omega, rfl, by go_num, by rw [TE2.out, ← List.append_assoc]; exact w6A⟩
          case measure => simp [intOf]; omega
        · obtain rfl : j = ex.length := by omega
          have JX := Lib.hid (by have h := HJE.out; rw [List.take_length] at h; exact h : AccJ W v5 (((l.take k).flatMap (nS (N + 1)) ++ parts nm ++ nP') ++ ex.flatMap (nE (N + 1))) wr)
          clear HJE
          go_wp2_with fail
          refine (KB.out _ (JX.out.on HW.out)).mono ?_
          rintro e w7 ⟨a7, p7, rfl, s7, _, b7⟩
          have J7 := Lib.hid (JX.out.step b7)
          have U7 := Lib.hid s7
          clear b7 s7 c9 c12 c13 bw
          go_wp2_with (first
            | (refine wp_appS rfl (.tmp 49) (.tmp 55) rfl J7.out.own J7.out.bel.size U7.out rfl rfl (by have := BK.out; simp only [List.length_append]; omega) ?_; intro v8 w8 ho hg; have w8A := Lib.hid (J7.out.grown ho hg); clear ho hg; have bw := Nat.lt_of_lt_of_le hbl (w8A.out.on HW.out).size; have c13 := HCJ.out 13 _ rfl _ (w8A.out.on HW.out)))
          refine (KL.out _ (w8A.out.on HW.out)).mono ?_
          rintro e w9 ⟨a9, p9, rfl, s9, _, b9⟩
          have J9 := Lib.hid (w8A.out.step b9)
          have U9 := Lib.hid s9
          clear b9 s9 c13 bw
          go_wp2_with (first
            | (refine wp_appS rfl (.tmp 57) (.tmp 63) rfl J9.out.own J9.out.bel.size U9.out rfl rfl (by have := BK.out; simp only [List.length_append]; omega) ?_; intro v10 w10 ho hg; have w10A := Lib.hid (J9.out.grown ho hg); clear ho hg))
          go_roundw
          case rel => exact ⟨k + 1, v10, by omega, rfl, by go_num, by rw [TK.out]; exact w10A⟩
          case measure => simp [intOf]; omega
    · obtain rfl : k = len := by omega
      have HE := HJ.out
      rw [show l.take k = l by rw [← HL.out, List.take_length]] at HE
      obtain ⟨a', cap', rfl, HP⟩ := nms_done HE (HZ.out)
      have HP := Lib.hid HP
      clear HE HJ
      go_wp2_with fail
      go_ret
      exact HP.out
theorem refStmtNames_any (w0 : World) : ∀ (N : Nat) (l : List (List D)), (∀ x ∈ l, ShS x) → mRows l ≤ 2000000 → (∀ x ∈ l, mRow x < N) → ∀ a cap, At w0 (.slice a l.length cap) (.row l) → ∀ W, Below w0.heap.size w0 W → Calls Tryz.prog 55 #[.slice a l.length cap] W (NmsPost (l.flatMap (nS N)) W)
  | 0, l, hs, hb, hlt, a, cap, hA, W, hW => by
    have h0 : l = [] := by
      cases l with
      | nil => rfl
      | cons x r => exact absurd (hlt x (by simp)) (Nat.not_lt_zero _)
    subst h0
    exact refStmtNames_step w0 0 a _ cap [] hA hs hb (by simp) (fun x hx => by simp at hx) W hW
  | N + 1, l, hs, hb, hlt, a, cap, hA, W, hW =>
    refStmtNames_step w0 N a _ cap l hA hs hb hlt (fun x hx l2 h2 hs2 a2 cap2 hA2 U hU => by
      have h3 := mRows_mem hx
      have h4 := mRow_sub h2
      have h5 := hlt x hx
      exact refStmtNames_any w0 N l2 hs2 (by omega) (fun y hy => by have := mRows_mem hy; omega) a2 cap2 hA2 U hU) W hW
end Go.Proofs.YtciijpahjjoppaaGreat
end
section
namespace Go.Proofs.YtciijpahjjoppaaGreat
open Go.RowKit Go.Deep Go.Shelf Go.Maps

structure AccB (w : World) (v : Value) (acc : List ByteArray) (rb : Nat) (cs : Array Value) (W : World) : Prop where
  j : AccJ w v acc W
  b : W.heap[rb]? = some (.cells cs 80)
theorem AccB.step {w : World} {v : Value} {acc : List ByteArray} {rb : Nat} {cs : Array Value} {W W' : World} (h : AccB w v acc rb cs W) (b : Below W.heap.size W W') : AccB w v acc rb cs W' := ⟨h.j.step b, (b.block _ (heap_lt h.b)).trans h.b⟩
theorem AccB.grown {w : World} {v v' : Value} {acc acc' : List ByteArray} {rb : Nat} {cs : Array Value} {W W' : World} (h : AccB w v acc rb cs W) (ho : OwnS w.heap.size W' v' acc') (hg : W.grownBy W' v.ownBlock) : AccB w v' acc' rb cs W' := by
  refine ⟨h.j.grown ho hg, (hg.block rb (heap_lt h.b) fun e => ?_).trans h.b⟩
  rcases h.j.own.2 with ⟨hv, _⟩ | ⟨q, cap, cur, hv, _, hq, _⟩
  · rw [hv] at e; simp [Value.ownBlock] at e
  · rw [hv] at e
    have e' : rb = q := by simpa [Value.ownBlock] using e
    have hb := h.b
    rw [e', hq] at hb
    cases hb
set_option maxRecDepth 100000 in
set_option maxHeartbeats 16000000 in
theorem refRoutineNames_step (w0 : World) (N : Nat) (a : Option Addr) (len cap : Nat) (l : List (List D)) (hA : At w0 (.slice a len cap) (.row l)) (hs : ∀ x ∈ l, ShR x) (hb : mRows l ≤ 2000000) (hlt : ∀ x ∈ l, mRow x < N + 1)
    (hrec : ∀ x ∈ l, ∀ l2, D.row l2 ∈ x → (∀ y ∈ l2, ShR y) → ∀ a2 cap2, At w0 (.slice a2 l2.length cap2) (.row l2) → ∀ W, Below w0.heap.size w0 W → Calls Tryz.prog 54 #[.slice a2 l2.length cap2] W (NmsPost (l2.flatMap (nR N)) W)) (W : World) (hW : Below w0.heap.size w0 W) :
    Calls Tryz.prog 54 #[.slice a len cap] W (NmsPost (l.flatMap (nR (N + 1))) W) := by
  have HA := Lib.hid hA
  have HS := Lib.hid hs
  have HW := Lib.hid hW
  have HR := Lib.hid hrec
  have HLT := Lib.hid hlt
  have hle := hA.len_le
  have HL := Lib.hid hA.len_eq.1
  have HT := Lib.hid (flat_len (h := nR (N + 1)) l fun y hy => (nR_ok (N + 1) (hs y hy)).1)
  have HZ := Lib.hid (flat_sz (h := nR (N + 1)) l (fun y hy => (nR_ok (N + 1) (hs y hy)).2) hb)
  have HBM := Lib.hid hb
  clear hA hs hW hb hrec hlt
  go_enter Tryz.func54, Tryz.ntmps54
  go_wp2_with fail
  go_loopw [3, 4] (fun u i wr => ∃ (k : Nat) (v : Value), k ≤ len ∧ v = u ∧ i = .int .i64 k ∧ Hid (AccJ W v ((l.take k).flatMap (nR (N + 1))) wr)) (fun _ i _ => len - (intOf i).toNat)
  case atStart => exact ⟨0, _, Nat.zero_le _, rfl, rfl, Lib.hid (AccJ.start W)⟩
  case round =>
    obtain ⟨k, v, hk, rfl, rfl, HJ⟩ := hrel
    by_cases hlt : k < len
    · obtain ⟨b, o, vs, ds, rfl, hbl, hx, hv, hc⟩ := HA.out.elem hlt
      have hmem := List.mem_of_getElem? hx
      have hrl := HR.out ds hmem
      have hltd := HLT.out ds hmem
      obtain ⟨m0, m1, nm, rs, ps, vr, inn, bd, en, m0a, m0c, m1a, m1c, psa, psc, vra, vrc, ina, inc, bda, bdc, ena, enc, hds, hvs, _, _, _, _, a_ps, a_vr, a_in, a_bd, _, _, _, t_ps, t_vr, t_in, t_bd, _⟩ := hv.openR (HS.out _ hmem)
      subst hvs
      have hdl : ds.length = 9 := by rw [hds]; rfl
      rw [hdl] at hc
      have HCV := Lib.hid hc
      have hvo := Lib.hid hv.one
      have hbm := mRows_mem hmem
      rw [hds] at hbm hltd
      simp only [mRow, mD] at hbm hltd
      have hz1 : nm.size ≤ 2000000 := by have := HBM.out; omega
      have BP := Lib.hid (show mRows ps ≤ 2000000 by have := HBM.out; omega)
      have KV := Lib.hid (fun (V : World) (hV : Below w0.heap.size w0 V) => refVarNames_any w0 vra vr.length vrc vr a_vr t_vr (by have := HBM.out; omega) V hV)
      have KI := Lib.hid (hrl inn (by rw [hds]; simp) t_in ina inc a_in)
      have KB := Lib.hid (refStmtNames_any w0 (N + 1) bd t_bd (by have := HBM.out; omega) (fun y hy => by have := mRows_mem hy; omega) bda bdc a_bd)
      have AP := Lib.hid a_ps
      have TP := Lib.hid t_ps
      have hlps := a_ps.len_le
      have ET := Lib.hid (show nR (N + 1) ds = parts nm ++ (ps.flatMap nP ++ (vr.flatMap nV ++ (inn.flatMap (nR N) ++ bd.flatMap (nS (N + 1))))) by rw [hds]; rfl)
      have BK := Lib.hid (show ((l.take k).flatMap (nR (N + 1))).length + ((parts nm).length + ((ps.flatMap nP).length + ((vr.flatMap nV).length + ((inn.flatMap (nR N)).length + (bd.flatMap (nS (N + 1))).length)))) ≤ 2000000 by have := take_flat (h := nR (N + 1)) hx; rw [ET.out] at this; simp only [List.length_append] at this; have := HT.out; have := HBM.out; omega)
      have TK := Lib.hid (show (l.take (k + 1)).flatMap (nR (N + 1)) = (((((l.take k).flatMap (nR (N + 1)) ++ parts nm) ++ ps.flatMap nP) ++ vr.flatMap nV) ++ inn.flatMap (nR N)) ++ bd.flatMap (nS (N + 1)) by rw [take_flat_succ hx, ET.out]; simp only [List.append_assoc])
      clear hx hds hdl hc hv hbm hmem hrl hltd a_ps a_vr a_in a_bd t_ps t_vr t_in t_bd ET
      generalize hnV : vr.flatMap nV = nV' at *
      generalize hnI : inn.flatMap (nR N) = nI at *
      generalize hnB : bd.flatMap (nS (N + 1)) = nB at *
      clear hnV hnI hnB
      have bw := Nat.lt_of_lt_of_le hbl (HJ.out.on HW.out).size
      have C0 := Lib.hid (show ∀ j u, ([.slice m0a m0.length m0c, .slice m1a m1.length m1c, .string nm, .int .i64 rs, .slice psa ps.length psc, .slice vra vr.length vrc, .slice ina inn.length inc, .slice bda bd.length bdc, .slice ena en.length enc] : List Value)[j]? = some u → wr.cell? ⟨b, o + k * 9 + j, none⟩ = some u from fun j u h => ((HJ.out.on HW.out).cell (p := ⟨b, o + k * 9 + j, none⟩) hbl).trans (HCV.out j u h))
      have J0 := Lib.hid (show AccB W v ((l.take k).flatMap (nR (N + 1))) wr.heap.size ⟨[.slice m0a m0.length m0c, .slice m1a m1.length m1c, .string nm, .int .i64 rs, .slice psa ps.length psc, .slice vra vr.length vrc, .slice ina inn.length inc, .slice bda bd.length bdc, .slice ena en.length enc]⟩ (wr.alloc (.cells ⟨[.slice m0a m0.length m0c, .slice m1a m1.length m1c, .string nm, .int .i64 rs, .slice psa ps.length psc, .slice vra vr.length vrc, .slice ina inn.length inc, .slice bda bd.length bdc, .slice ena en.length enc]⟩ 80)) from ⟨HJ.out.step ((Below.refl _ _).alloc (Nat.le_refl _) _), heap_new _ _⟩)
      have BTJ := Lib.hid (show (0 : Nat) ≤ 0 from Nat.le_refl _)
      have cB := box_cells J0.out.b
      go_wp2_with (first
        | ((with_reducible refine wp_loadAgg (o := ⟨some 16, _, _, _, _, _⟩) rfl (.tmp 15) 80 rfl 9 Tryz.isAgg80 Tryz.sizeOf80 b (o + k * 9) ?_ [.slice m0a m0.length m0c, .slice m1a m1.length m1c, .string nm, .int .i64 rs, .slice psa ps.length psc, .slice vra vr.length vrc, .slice ina inn.length inc, .slice bda bd.length bdc, .slice ena en.length enc] rfl C0.out ?_); rfl)
        | ((with_reducible refine wp_storeNew (o := ⟨none, .store 80 (.tmp 5) (.tmp 16), _, _, _, _⟩) rfl (.tmp 5) (.tmp 16) 80 rfl 9 Tryz.sizeOf80 _ ?_ ?_ [.slice m0a m0.length m0c, .slice m1a m1.length m1c, .string nm, .int .i64 rs, .slice psa ps.length psc, .slice vra vr.length vrc, .slice ina inn.length inc, .slice bda bd.length bdc, .slice ena en.length enc] ?_ rfl hvo.out ?_); rfl; rfl; rfl))
      refine (refPartsN nm hz1 _).mono ?_
      rintro e w1 ⟨a1, p1, rfl, s1, _, b1⟩
      have J1 := Lib.hid (J0.out.step b1)
      have U1 := Lib.hid s1
      clear b1 s1 cB
      clear bw
      go_wp2_with (first
        | (refine wp_appS rfl (.tmp 17) (.tmp 20) rfl J1.out.j.own J1.out.j.bel.size U1.out rfl rfl (by have := BK.out; have := BTJ.out; (try simp only [List.length_append]); omega) ?_; intro v2 w2 ho hg; have w2A := Lib.hid (J1.out.grown ho hg); clear ho hg; have cB := box_cells w2A.out.b))
      obtain ⟨wo, hwo⟩ : ∃ wo, wo = wr := ⟨_, rfl⟩
      obtain ⟨rb, hrb⟩ : ∃ rb, rb = wr.heap.size := ⟨_, rfl⟩
      rw [← hrb] at w2A cB ⊢
      clear hwo hrb C0 J0 J1 U1
      go_loopw [3, 6] (fun u i wr => ∃ (j : Nat) (v : Value), j ≤ ps.length ∧ v = u ∧ i = .int .i64 j ∧ Hid (AccB W v (((l.take k).flatMap (nR (N + 1)) ++ parts nm) ++ (ps.take j).flatMap nP) rb ⟨[.slice m0a m0.length m0c, .slice m1a m1.length m1c, .string nm, .int .i64 rs, .slice psa ps.length psc, .slice vra vr.length vrc, .slice ina inn.length inc, .slice bda bd.length bdc, .slice ena en.length enc]⟩ wr)) (fun _ i _ => ps.length - (intOf i).toNat)
      case atStart => exact ⟨0, _, Nat.zero_le _, rfl, rfl, by simpa using w2A⟩
      case round =>
        obtain ⟨j, v3, hj, rfl, rfl, HJE⟩ := hrel
        clear cB
        have cB := box_cells HJE.out.b
        by_cases hjt : j < ps.length
        · obtain ⟨b2, o2, us, es, rfl, hbl2, hy, hu, hc2⟩ := AP.out.elem hjt
          obtain ⟨pn, pkd, psz, ptn, pmd, hes, hus, _⟩ := hu.openP (TP.out _ (List.mem_of_getElem? hy))
          subst hus
          have hel : es.length = 5 := by rw [hes]; rfl
          rw [hel] at hc2
          have hbp := mRows_mem (List.mem_of_getElem? hy)
          rw [hes] at hbp
          simp only [mRow, mD] at hbp
          have hq1 : pn.size ≤ 2000000 := by have := BP.out; omega
          have hq2 : ptn.size ≤ 2000000 := by have := BP.out; omega
          have BTJ := Lib.hid (show ((ps.take j).flatMap nP).length + ((parts pn).length + (parts ptn).length) ≤ (ps.flatMap nP).length by have := take_flat (h := nP) hy; rw [hes] at this; simpa [nP] using this)
          have TP2 := Lib.hid (show (ps.take (j + 1)).flatMap nP = ((ps.take j).flatMap nP ++ parts pn) ++ parts ptn by rw [take_flat_succ hy, hes, List.append_assoc]; rfl)
          have HD0 := Lib.hid (hc2 0 _ rfl)
          have HD3 := Lib.hid (hc2 3 _ rfl)
          have bw2 := Nat.lt_of_lt_of_le hbl2 (HJE.out.j.on HW.out).size
          have d0 := ((HJE.out.j.on HW.out).cell (p := ⟨b2, o2 + j * 5, none⟩) hbl2).trans HD0.out
          clear hy hu hc2 hel hes hbp
          go_wp2_with fail
          refine (refPartsN pn hq1 _).mono ?_
          rintro e w5 ⟨a5, p5, rfl, s5, _, b5⟩
          have J5 := Lib.hid (HJE.out.step b5)
          have U5 := Lib.hid s5
          clear b5 s5 cB
          clear d0 bw2
          go_wp2_with (first
            | (refine wp_appS rfl (.tmp 29) (.tmp 36) rfl J5.out.j.own J5.out.j.bel.size U5.out rfl rfl (by have := BK.out; have := BTJ.out; (try simp only [List.length_append]); omega) ?_; intro v6 w6 ho hg; have w6A := Lib.hid (J5.out.grown ho hg); clear ho hg; have cB := box_cells w6A.out.b; have bw2 := Nat.lt_of_lt_of_le hbl2 (w6A.out.j.on HW.out).size; have d3 := ((w6A.out.j.on HW.out).cell (p := ⟨b2, o2 + j * 5 + 3, none⟩) hbl2).trans HD3.out))
          refine (refPartsN ptn hq2 _).mono ?_
          rintro e w7 ⟨a7, p7, rfl, s7, _, b7⟩
          have J7 := Lib.hid (w6A.out.step b7)
          have U7 := Lib.hid s7
          clear b7 s7 cB
          clear d3 bw2
          go_wp2_with (first
            | (refine wp_appS rfl (.tmp 38) (.tmp 46) rfl J7.out.j.own J7.out.j.bel.size U7.out rfl rfl (by have := BK.out; have := BTJ.out; (try simp only [List.length_append]); omega) ?_; intro v8 w8 ho hg; have w8A := Lib.hid (J7.out.grown ho hg); clear ho hg))
          go_roundw
          case rel => exact ⟨j + 1, v8, by omega, rfl, by go_num, by rw [TP2.out, ← List.append_assoc, ← List.append_assoc]; exact w8A⟩
          case measure => simp [intOf]; omega
        · obtain rfl : j = ps.length := by omega
          have JX := Lib.hid (by have h := HJE.out; rw [List.take_length] at h; exact h : AccB W v3 (((l.take k).flatMap (nR (N + 1)) ++ parts nm) ++ ps.flatMap nP) rb ⟨[.slice m0a m0.length m0c, .slice m1a m1.length m1c, .string nm, .int .i64 rs, .slice psa ps.length psc, .slice vra vr.length vrc, .slice ina inn.length inc, .slice bda bd.length bdc, .slice ena en.length enc]⟩ wr)
          clear HJE
          go_wp2_with fail
          refine (KV.out _ (JX.out.j.on HW.out)).mono ?_
          rintro e w9 ⟨a9, p9, rfl, s9, _, b9⟩
          have J9 := Lib.hid (JX.out.step b9)
          have U9 := Lib.hid s9
          clear b9 s9 cB
          go_wp2_with (first
            | (refine wp_appS rfl (.tmp 48) (.tmp 51) rfl J9.out.j.own J9.out.j.bel.size U9.out rfl rfl (by have := BK.out; have := BTJ.out; (try simp only [List.length_append]); omega) ?_; intro v10 w10 ho hg; have w10A := Lib.hid (J9.out.grown ho hg); clear ho hg; have cB := box_cells w10A.out.b))
          refine (KI.out _ (w10A.out.j.on HW.out)).mono ?_
          rintro e w11 ⟨a11, p11, rfl, s11, _, b11⟩
          have J11 := Lib.hid (w10A.out.step b11)
          have U11 := Lib.hid s11
          clear b11 s11 cB
          go_wp2_with (first
            | (refine wp_appS rfl (.tmp 53) (.tmp 56) rfl J11.out.j.own J11.out.j.bel.size U11.out rfl rfl (by have := BK.out; have := BTJ.out; (try simp only [List.length_append]); omega) ?_; intro v12 w12 ho hg; have w12A := Lib.hid (J11.out.grown ho hg); clear ho hg; have cB := box_cells w12A.out.b))
          refine (KB.out _ (w12A.out.j.on HW.out)).mono ?_
          rintro e w13 ⟨a13, p13, rfl, s13, _, b13⟩
          have J13 := Lib.hid (w12A.out.step b13)
          have U13 := Lib.hid s13
          clear b13 s13 cB
          go_wp2_with (first
            | (refine wp_appS rfl (.tmp 58) (.tmp 61) rfl J13.out.j.own J13.out.j.bel.size U13.out rfl rfl (by have := BK.out; have := BTJ.out; (try simp only [List.length_append]); omega) ?_; intro v14 w14 ho hg; have w14A := Lib.hid (J13.out.grown ho hg); clear ho hg))
          go_roundw
          case rel => exact ⟨k + 1, v14, by omega, rfl, by go_num, by rw [TK.out]; exact Lib.hid w14A.out.j⟩
          case measure => simp [intOf]; omega
    · obtain rfl : k = len := by omega
      have HE := HJ.out
      rw [show l.take k = l by rw [← HL.out, List.take_length]] at HE
      obtain ⟨a', cap', rfl, HP⟩ := nms_done HE (HZ.out)
      have HP := Lib.hid HP
      clear HE HJ
      go_wp2_with fail
      go_ret
      exact HP.out
theorem refRoutineNames_any (w0 : World) : ∀ (N : Nat) (l : List (List D)), (∀ x ∈ l, ShR x) → mRows l ≤ 2000000 → (∀ x ∈ l, mRow x < N) → ∀ a cap, At w0 (.slice a l.length cap) (.row l) → ∀ W, Below w0.heap.size w0 W → Calls Tryz.prog 54 #[.slice a l.length cap] W (NmsPost (l.flatMap (nR N)) W)
  | 0, l, hs, hb, hlt, a, cap, hA, W, hW => by
    have h0 : l = [] := by
      cases l with
      | nil => rfl
      | cons x r => exact absurd (hlt x (by simp)) (Nat.not_lt_zero _)
    subst h0
    exact refRoutineNames_step w0 0 a _ cap [] hA hs hb (by simp) (fun x hx => by simp at hx) W hW
  | N + 1, l, hs, hb, hlt, a, cap, hA, W, hW =>
    refRoutineNames_step w0 N a _ cap l hA hs hb hlt (fun x hx l2 h2 hs2 a2 cap2 hA2 U hU => by
      have h3 := mRows_mem hx
      have h4 := mRow_sub h2
      have h5 := hlt x hx
      exact refRoutineNames_any w0 N l2 hs2 (by omega) (fun y hy => by have := mRows_mem hy; omega) a2 cap2 hA2 U hU) W hW
end Go.Proofs.YtciijpahjjoppaaGreat
end
section
namespace Go.Proofs.YtciijpahjjoppaaGreat
open Go.RowKit Go.Deep Go.Shelf Go.Maps

set_option maxRecDepth 100000 in
set_option maxHeartbeats 4000000 in
theorem names_any (K : Nat) (w : World) (x : List D) (vs : List Value) (hx : ShG x) (hK : mRow x < K) (hb : mRow x ≤ 2000000) (hv : AllAt w vs x) : Calls Tryz.prog 19 #[.agg ⟨vs⟩] w (NamPost ((namClo (w.heap.size + 1)).pts [] (nG K x)).2 w) := by
  have hmm := @run_makeMap Tryz.prog
  have HT := Lib.hid (tprogram_all (namClo (w.heap.size + 1)) (.inl rfl) (fun _ _ h => h) w (show w.heap.size ≤ w.heap.size + 1 by omega) K x hx hK (by omega) vs hv)
  have HN := Lib.hid (nG_ok K hx).1
  have HST := Lib.hid (fun s => tG_state (namClo (w.heap.size + 1)) K s hx)
  obtain ⟨nm, be, mi, af, rc, vr, rt, bd, en, bea, bec, mia, mic, afa, afc, rca, rcc, vra, vrc, rta, rtc, bda, bdc, ena, enc, hxe, rfl, _⟩ := hv.openG hx
  clear hv hx hxe
  go_enter Tryz.func19, Tryz.ntmps19
  have LN := Lib.hid (show ([.func (.func 50) #[] #[.pointer (some ⟨w.heap.size + 1 + 1 + 1, 0, none⟩), .pointer (some ⟨w.heap.size + 1, 0, none⟩)]] : List Value).length = 1 from rfl)
  have ON := Lib.hid (show ∀ v ∈ ([.func (.func 50) #[] #[.pointer (some ⟨w.heap.size + 1 + 1 + 1, 0, none⟩), .pointer (some ⟨w.heap.size + 1, 0, none⟩)]] : List Value), v.oneCell' = true by intro v hv; simp at hv; subst hv; rfl)
  go_wp2_with (first
    | ((with_reducible refine wp_storeNew (o := ⟨none, .store 97 (.tmp 5) (.tmp 8), _, _, _, _⟩) rfl (.tmp 5) (.tmp 8) 97 rfl 1 Tryz.sizeOf97 _ ?_ ?_ [.func (.func 50) #[] #[.pointer (some ⟨w.heap.size + 1 + 1 + 1, 0, none⟩), .pointer (some ⟨w.heap.size + 1, 0, none⟩)]] ?_ LN.out ON.out ?_); rfl; (simp only [World.size_alloc]; rfl); rfl))
  have I0 := Lib.hid (namesW0 w (.cells #[.string nm, .slice bea be.length bec, .slice mia mi.length mic, .slice afa af.length afc, .slice rca rc.length rcc, .slice vra vr.length vrc, .slice rta rt.length rtc, .slice bda bd.length bdc, .slice ena en.length enc] 35) #[.func (.func 50) #[] #[.pointer (some ⟨w.heap.size + 1 + 1 + 1, 0, none⟩), .pointer (some ⟨w.heap.size + 1, 0, none⟩)]] (0 + (nG K x).length) (by have := HN.out; omega))
  have B0 := Lib.hid (below5 w (.cells #[.string nm, .slice bea be.length bec, .slice mia mi.length mic, .slice afa af.length afc, .slice rca rc.length rcc, .slice vra vr.length vrc, .slice rta rt.length rtc, .slice bda bd.length bdc, .slice ena en.length enc] 35) (.cells #[.slice none 0 0] 29) (.map #[] 0) (.cells #[.map (some (w.heap.size + 1 + 1))] 92) (.cells #[.func (.func 50) #[] #[.pointer (some ⟨w.heap.size + 1 + 1 + 1, 0, none⟩), .pointer (some ⟨w.heap.size + 1, 0, none⟩)]] 97))
  refine (HT.out 0 _ [] _ (Nat.le_refl _) I0.out B0.out).mono ?_
  rintro e W1 ⟨vs', rfl, _, i1, k1⟩
  have B1 := Lib.hid (k1.toBelow B0.out (Nat.le_refl _) (fun c hc ho => by have := ((namClo (w.heap.size + 1)).ltO I0.out ho).1; have : w.heap.size + 1 ≤ c := this; omega))
  have I1 : NamesI (w.heap.size + 1) 0 ((namClo (w.heap.size + 1)).pts [] (nG K x)).2 W1 := by
    have h : NamesI (w.heap.size + 1) 0 (tG (namClo (w.heap.size + 1)) K [] x).2 W1 := i1
    rwa [HST.out] at h
  obtain ⟨v, hv, hr⟩ := I1.row
  have HR := Lib.hid hr
  have cv := hv.cell
  clear I1 i1 k1 hr hv
  go_wp2_with fail
  go_ret
  exact ⟨v, rfl, ownS_mono HR.out (by omega), B1.out⟩
end Go.Proofs.YtciijpahjjoppaaGreat
end
section
namespace Go.Proofs.YtciijpahjjoppaaGreat
open Go.RowKit Go.Deep Go.Shelf Go.Maps

def addN (s : List ByteArray) (x : ByteArray) : List ByteArray := if x.size = 0 then s else addName s x
def foldN (l : List ByteArray) : List ByteArray := l.foldl addN []
theorem foldN_snoc (l : List ByteArray) (x : ByteArray) : foldN (l ++ [x]) = addN (foldN l) x := by unfold foldN; rw [List.foldl_append]; rfl
theorem namClo_fold (b0 : Nat) : ∀ (l s : List ByteArray), ((namClo b0).pts s l).2 = l.foldl addN s
  | [], _ => rfl
  | x :: l, s => by
    have e : ((namClo b0).pt s x).2 = addN s x := by
      unfold Clo.pt addN
      split <;> rfl
    show ((namClo b0).pts ((namClo b0).pt s x).2 l).2 = _
    rw [namClo_fold b0 l, e]
    rfl
theorem addN_len (s : List ByteArray) (x : ByteArray) : (addN s x).length ≤ s.length + 1 := by
  unfold addN addName
  split
  · omega
  · split
    · omega
    · simp
theorem addN_mem {s : List ByteArray} {x y : ByteArray} (h : y ∈ addN s x) : y ∈ s ∨ y = x := by
  unfold addN addName at h
  split at h
  · exact .inl h
  · split at h
    · exact .inl h
    · rcases List.mem_append.1 h with h | h
      · exact .inl h
      · exact .inr (List.mem_singleton.1 h)
theorem foldN_ok (l : List ByteArray) : ∀ s : List ByteArray, (l.foldl addN s).length ≤ s.length + l.length ∧ ∀ y ∈ l.foldl addN s, y ∈ s ∨ y ∈ l := by
  induction l with
  | nil => intro s; exact ⟨by simp, fun y hy => .inl hy⟩
  | cons x l ih =>
    intro s
    have h := ih (addN s x)
    have h2 := addN_len s x
    refine ⟨by simp only [List.foldl_cons, List.length_cons]; omega, fun y hy => ?_⟩
    rcases h.2 y hy with h3 | h3
    · rcases addN_mem h3 with h4 | h4
      · exact .inl h4
      · exact .inr (by simp [h4])
    · exact .inr (by simp [h3])
theorem empty_size (x : ByteArray) : x.toList.isEmpty = decide (x.size = 0) := by
  rw [ByteArray.toList_eq, Bool.eq_iff_iff, decide_eq_true_eq, List.isEmpty_iff, Array.toList_eq_nil_iff]
  constructor
  · intro h
    show x.data.size = 0
    rw [h]; rfl
  · intro h
    exact Array.size_eq_zero_iff.1 h
theorem heap_of_at {w : World} {a : Option Addr} {len cap : Nat} {ss : List ByteArray} (h : IsStrs w a len cap ss) {k : Nat} (hk : k < len) : ∀ {b o : Nat}, a = some ⟨b, o, none⟩ → b < w.heap.size := fun {b o} e => by
  rcases h.2.2.2.2 with h0 | ⟨b', o', e', hb, _⟩
  · omega
  · rw [e] at e'; cases e'; exact hb
theorem one_strs (w : World) (x : ByteArray) (hx : x.size ≤ maxLen) : IsStrs (w.alloc (.cells #[.string x] 9)) (some ⟨w.heap.size, 0, none⟩) 1 1 [x] := by
  refine ⟨rfl, Nat.le_refl _, by decide, fun y hy => by rw [List.mem_singleton.1 hy]; exact hx, .inr ⟨w.heap.size, 0, rfl, by simp, fun j y hy => ?_⟩⟩
  rw [box_cells (heap_new w (.cells #[.string x] 9))]
  match j, hy with
  | 0, hy => simp at hy; subst hy; rfl
  | j + 1, hy => simp at hy
set_option maxRecDepth 100000 in
set_option maxHeartbeats 16000000 in
theorem refNames_any (K : Nat) (w : World) (x : List D) (vs : List Value) (hx : ShG x) (hK : mRow x < K) (hb : mRow x ≤ 2000000) (hv : AllAt w vs x) : Calls Tryz.prog 20 #[.agg ⟨vs⟩] w (NmsPost (foldN (nG K x)) w) := by
  have HN := Lib.hid (show (nG K x).length ≤ 2000000 by have := (nG_ok K hx).1; omega)
  have HZ := Lib.hid (show ∀ p ∈ nG K x, p.size ≤ 2000000 from fun p hp => by have := (nG_ok K hx).2 p hp; omega)
  obtain ⟨nm, be, mi, af, rc, vr, rt, bd, en, bea, bec, mia, mic, afa, afc, rca, rcc, vra, vrc, rta, rtc, bda, bdc, ena, enc, hxe, rfl, i0, a_be, a_mi, a_af, a_rc, a_vr, a_rt, a_bd, a_en, t_be, t_mi, t_af, t_rc, t_vr, t_rt, t_bd, t_en⟩ := hv.openG hx
  have ALLE := Lib.hid (show ((((parts nm ++ rc.flatMap nC) ++ vr.flatMap nV) ++ rt.flatMap (nR K)) ++ bd.flatMap (nS K)) = nG K x by rw [hxe]; simp only [nG, List.append_assoc])
  have BK := Lib.hid (show (parts nm).length + ((rc.flatMap nC).length + ((vr.flatMap nV).length + ((rt.flatMap (nR K)).length + (bd.flatMap (nS K)).length))) ≤ 2000000 by have := HN.out; rw [← ALLE.out] at this; simp only [List.length_append] at this; omega)
  rw [hxe] at hb hK
  simp only [mRow, mD] at hb hK
  have hz1 : nm.size ≤ 2000000 := by omega
  have BC := Lib.hid (show mRows rc ≤ 2000000 by omega)
  have KV := Lib.hid (fun (V : World) (hV : Below w.heap.size w V) => refVarNames_any w vra vr.length vrc vr a_vr t_vr (by omega) V hV)
  have KR := Lib.hid (refRoutineNames_any w K rt t_rt (by omega) (fun y hy => by have := mRows_mem hy; omega) rta rtc a_rt)
  have KS := Lib.hid (refStmtNames_any w K bd t_bd (by omega) (fun y hy => by have := mRows_mem hy; omega) bda bdc a_bd)
  have AC := Lib.hid a_rc
  have TC := Lib.hid t_rc
  have hlrc := a_rc.len_le
  have HW := Lib.hid ((Below.refl w.heap.size w).alloc (Nat.le_refl _) (.cells #[.string nm, .slice bea be.length bec, .slice mia mi.length mic, .slice afa af.length afc, .slice rca rc.length rcc, .slice vra vr.length vrc, .slice rta rt.length rtc, .slice bda bd.length bdc, .slice ena en.length enc] 35))
  have BXC := Lib.hid (fun (V : World) (hb : Below (w.alloc (.cells #[.string nm, .slice bea be.length bec, .slice mia mi.length mic, .slice afa af.length afc, .slice rca rc.length rcc, .slice vra vr.length vrc, .slice rta rt.length rtc, .slice bda bd.length bdc, .slice ena en.length enc] 35)).heap.size (w.alloc (.cells #[.string nm, .slice bea be.length bec, .slice mia mi.length mic, .slice afa af.length afc, .slice rca rc.length rcc, .slice vra vr.length vrc, .slice rta rt.length rtc, .slice bda bd.length bdc, .slice ena en.length enc] 35)) V) => box_cells ((hb.block w.heap.size (by simp)).trans (heap_new w (.cells #[.string nm, .slice bea be.length bec, .slice mia mi.length mic, .slice afa af.length afc, .slice rca rc.length rcc, .slice vra vr.length vrc, .slice rta rt.length rtc, .slice bda bd.length bdc, .slice ena en.length enc] 35))))
  clear hx hv hb hK a_be a_mi a_af a_rc a_vr a_rt a_bd a_en t_be t_mi t_af t_rc t_vr t_rt t_bd t_en i0
  generalize hnV : vr.flatMap nV = nV' at *
  generalize hnR : rt.flatMap (nR K) = nR' at *
  generalize hnS : bd.flatMap (nS K) = nS' at *
  clear hnV hnR hnS
  go_enter Tryz.func20, Tryz.ntmps20
  go_wp2_with fail
  refine (refPartsN nm hz1 _).mono ?_
  rintro e w1 ⟨a1, p1, rfl, s1, o1, b1⟩
  have J1 := Lib.hid (show AccJ (w.alloc (.cells #[.string nm, .slice bea be.length bec, .slice mia mi.length mic, .slice afa af.length afc, .slice rca rc.length rcc, .slice vra vr.length vrc, .slice rta rt.length rtc, .slice bda bd.length bdc, .slice ena en.length enc] 35)) (.slice a1 (parts nm).length p1) (parts nm) w1 from ⟨o1, b1⟩)
  clear b1 s1 o1
  have BTJ := Lib.hid (show (0 : Nat) ≤ 0 from Nat.le_refl _)
  have cA := BXC.out _ J1.out.bel
  go_wp2_with fail
  go_loopw [3, 4] (fun u i wr => ∃ (k : Nat) (v : Value), k ≤ rc.length ∧ v = u ∧ i = .int .i64 k ∧ Hid (AccJ (w.alloc (.cells #[.string nm, .slice bea be.length bec, .slice mia mi.length mic, .slice afa af.length afc, .slice rca rc.length rcc, .slice vra vr.length vrc, .slice rta rt.length rtc, .slice bda bd.length bdc, .slice ena en.length enc] 35)) v (parts nm ++ (rc.take k).flatMap nC) wr)) (fun _ i _ => rc.length - (intOf i).toNat)
  case atStart => exact ⟨0, _, Nat.zero_le _, rfl, rfl, by simpa using J1⟩
  case round =>
    obtain ⟨k, v, hk, rfl, rfl, HJ⟩ := hrel
    clear cA
    have cA := BXC.out _ HJ.out.bel
    by_cases hlt : k < rc.length
    · obtain ⟨b, o, vs, ds, rfl, hbl, hx, hv, hc⟩ := AC.out.elem hlt
      obtain ⟨m0, m1, rnm, fs, re, m0a, m0c, m1a, m1c, fsa, fsc, rea, rec, hds, hvs, _, _, _, a_fs, _, _, _, t_fs, _⟩ := hv.openC (TC.out _ (List.mem_of_getElem? hx))
      subst hvs
      have hdl : ds.length = 5 := by rw [hds]; rfl
      rw [hdl] at hc
      have hbm := mRows_mem (List.mem_of_getElem? hx)
      rw [hds] at hbm
      simp only [mRow, mD] at hbm
      have hr1 : rnm.size ≤ 2000000 := by have := BC.out; omega
      have BF := Lib.hid (show mRows fs ≤ 2000000 by have := BC.out; omega)
      have BTC := Lib.hid (show ((rc.take k).flatMap nC).length + ((parts rnm).length + (fs.flatMap nF).length) ≤ (rc.flatMap nC).length by have := take_flat (h := nC) hx; rw [hds] at this; simpa [nC] using this)
      have TK := Lib.hid (show (rc.take (k + 1)).flatMap nC = ((rc.take k).flatMap nC ++ parts rnm) ++ fs.flatMap nF by rw [take_flat_succ hx, hds, List.append_assoc]; rfl)
      have AF := Lib.hid a_fs
      have TF := Lib.hid t_fs
      have hlfs := a_fs.len_le
      have HC2 := Lib.hid (hc 2 _ rfl)
      have HC3 := Lib.hid (hc 3 _ rfl)
      have bw := Nat.lt_of_lt_of_le hbl (HJ.out.on HW.out).size
      have c2 := ((HJ.out.on HW.out).cell (p := ⟨b, o + k * 5 + 2, none⟩) hbl).trans HC2.out
      clear hx hds hdl hc hv hbm a_fs t_fs BTJ
      have BTJ := BTC
      go_wp2_with fail
      refine (refPartsN rnm hr1 _).mono ?_
      rintro e w2 ⟨a2, p2, rfl, s2, _, b2⟩
      have J2 := Lib.hid (HJ.out.step b2)
      have U2 := Lib.hid s2
      clear b2 s2 cA c2 bw
      go_wp2_with (first
        | (refine wp_appS rfl (.tmp 18) (.tmp 25) rfl J2.out.own J2.out.bel.size U2.out rfl rfl (by have := BK.out; have := BTJ.out; (try simp only [List.length_append]); omega) ?_; intro v3 w3 ho hg; have w3A := Lib.hid (J2.out.grown ho hg); clear ho hg; have cA := BXC.out _ w3A.out.bel; have bw := Nat.lt_of_lt_of_le hbl (w3A.out.on HW.out).size; have c3 := ((w3A.out.on HW.out).cell (p := ⟨b, o + k * 5 + 3, none⟩) hbl).trans HC3.out))
      obtain ⟨wo, hwo⟩ : ∃ wo, wo = wr := ⟨_, rfl⟩
      clear hwo
      go_loopw [3, 5] (fun u i wr => ∃ (j : Nat) (v : Value), j ≤ fs.length ∧ v = u ∧ i = .int .i64 j ∧ Hid (AccJ (w.alloc (.cells #[.string nm, .slice bea be.length bec, .slice mia mi.length mic, .slice afa af.length afc, .slice (some ⟨b, o, none⟩) rc.length rcc, .slice vra vr.length vrc, .slice rta rt.length rtc, .slice bda bd.length bdc, .slice ena en.length enc] 35)) v (((parts nm ++ (rc.take k).flatMap nC) ++ parts rnm) ++ (fs.take j).flatMap nF) wr)) (fun _ i _ => fs.length - (intOf i).toNat)
      case atStart => exact ⟨0, _, Nat.zero_le _, rfl, rfl, by simpa using w3A⟩
      case round =>
        obtain ⟨j, v4, hj, rfl, rfl, HJE⟩ := hrel
        clear cA c3 bw
        have cA := BXC.out _ HJE.out.bel
        have bw := Nat.lt_of_lt_of_le hbl (HJE.out.on HW.out).size
        have c3 := ((HJE.out.on HW.out).cell (p := ⟨b, o + k * 5 + 3, none⟩) hbl).trans HC3.out
        by_cases hjt : j < fs.length
        · obtain ⟨b2, o2, us, es, rfl, hbl2, hy, hu, hc2⟩ := AF.out.elem hjt
          obtain ⟨f0, f1, fnm, fkd, f0a, f0c, f1a, f1c, hes, hus, _⟩ := hu.openF (TF.out _ (List.mem_of_getElem? hy))
          subst hus
          have hel : es.length = 4 := by rw [hes]; rfl
          rw [hel] at hc2
          have hbp := mRows_mem (List.mem_of_getElem? hy)
          rw [hes] at hbp
          simp only [mRow, mD] at hbp
          have hq1 : fnm.size ≤ 2000000 := by have := BF.out; omega
          have BT2 := Lib.hid (show ((fs.take j).flatMap nF).length + (parts fnm).length ≤ (fs.flatMap nF).length by have := take_flat (h := nF) hy; rw [hes] at this; simpa [nF] using this)
          have TP2 := Lib.hid (show (fs.take (j + 1)).flatMap nF = (fs.take j).flatMap nF ++ parts fnm by rw [take_flat_succ hy, hes]; rfl)
          have HD2 := Lib.hid (hc2 2 _ rfl)
          have bw2 := Nat.lt_of_lt_of_le hbl2 (HJE.out.on HW.out).size
          have d2 := ((HJE.out.on HW.out).cell (p := ⟨b2, o2 + j * 4 + 2, none⟩) hbl2).trans HD2.out
          clear hy hu hc2 hel hes hbp BTJ
          have BTJ := Lib.hid (show ((rc.take k).flatMap nC).length + ((parts rnm).length + (((fs.take j).flatMap nF).length + (parts fnm).length)) ≤ (rc.flatMap nC).length by have := BTC.out; have := BT2.out; omega)
          go_wp2_with fail
          refine (refPartsN fnm hq1 _).mono ?_
          rintro e w5 ⟨a5, p5, rfl, s5, _, b5⟩
          have J5 := Lib.hid (HJE.out.step b5)
          have U5 := Lib.hid s5
          clear b5 s5 cA d2 bw2 bw c3
          go_wp2_with (first
            | (refine wp_appS rfl (.tmp 38) (.tmp 49) rfl J5.out.own J5.out.bel.size U5.out rfl rfl (by have := BK.out; have := BTJ.out; (try simp only [List.length_append]); omega) ?_; intro v6 w6 ho hg; have w6A := Lib.hid (J5.out.grown ho hg); clear ho hg))
          go_roundw
          case rel => exact ⟨j + 1, v6, by omega, rfl, by go_num, by rw [TP2.out, ← List.append_assoc]; exact w6A⟩
          case measure => simp [intOf]; omega
        · obtain rfl : j = fs.length := by omega
          have JX := HJE
          rw [List.take_length] at JX
          clear HJE
          go_wp2_with fail
          go_roundw
          case rel => exact ⟨k + 1, v4, by omega, rfl, by go_num, by rw [TK.out, ← List.append_assoc, ← List.append_assoc]; exact JX⟩
          case measure => simp [intOf]; omega
    · obtain rfl : k = rc.length := by omega
      have JX := HJ
      rw [List.take_length] at JX
      clear HJ
      go_wp2_with fail
      refine (KV.out _ (JX.out.on HW.out)).mono ?_
      rintro e w7 ⟨a7, p7, rfl, s7, _, b7⟩
      have J7 := Lib.hid (JX.out.step b7)
      have U7 := Lib.hid s7
      clear b7 s7 cA
      go_wp2_with (first
        | (refine wp_appS rfl (.tmp 51) (.tmp 54) rfl J7.out.own J7.out.bel.size U7.out rfl rfl (by have := BK.out; have := BTJ.out; (try simp only [List.length_append]); omega) ?_; intro v8 w8 ho hg; have w8A := Lib.hid (J7.out.grown ho hg); clear ho hg; have cA := BXC.out _ w8A.out.bel))
      refine (KR.out _ (w8A.out.on HW.out)).mono ?_
      rintro e w9 ⟨a9, p9, rfl, s9, _, b9⟩
      have J9 := Lib.hid (w8A.out.step b9)
      have U9 := Lib.hid s9
      clear b9 s9 cA
      go_wp2_with (first
        | (refine wp_appS rfl (.tmp 56) (.tmp 59) rfl J9.out.own J9.out.bel.size U9.out rfl rfl (by have := BK.out; have := BTJ.out; (try simp only [List.length_append]); omega) ?_; intro v10 w10 ho hg; have w10A := Lib.hid (J9.out.grown ho hg); clear ho hg; have cA := BXC.out _ w10A.out.bel))
      refine (KS.out _ (w10A.out.on HW.out)).mono ?_
      rintro e w11 ⟨a11, p11, rfl, s11, _, b11⟩
      have J11 := Lib.hid (w10A.out.step b11)
      have U11 := Lib.hid s11
      clear b11 s11 cA
      go_wp2_with (first
        | (refine wp_appS rfl (.tmp 61) (.tmp 64) rfl J11.out.own J11.out.bel.size U11.out rfl rfl (by have := BK.out; have := BTJ.out; (try simp only [List.length_append]); omega) ?_; intro v12 w12 ho hg; have w12A := Lib.hid (J11.out.grown ho hg); clear ho hg))
      have HALL := ALLE.out
      have J12 := w12A.out
      rw [HALL] at J12
      obtain ⟨aA, pA, rfl, hsA⟩ := J12.own.strs (fun p hp => by have := HZ.out p hp; unfold maxLen; omega)
      have HSA := Lib.hid hsA
      have HBE := Lib.hid J12.bel
      clear J12 w12A HALL hsA
      generalize hnG : nG K x = all at *
      clear hnG
      have hall : all.length ≤ 2000000 := HN.out
      obtain ⟨wE, hwE⟩ : ∃ wE, wE = w12 := ⟨_, rfl⟩
      rw [← hwE] at HSA HBE ⊢
      clear hwE
      go_loopw [6, 7] (fun u i wr => ∃ (k : Nat) (v : Value), k ≤ all.length ∧ v = u ∧ i = .int .i64 k ∧ Hid (AccJ wE v (foldN (all.take k)) wr)) (fun _ i _ => all.length - (intOf i).toNat)
      case atStart => exact ⟨0, _, Nat.zero_le _, rfl, rfl, Lib.hid (AccJ.start wE)⟩
      case round =>
        obtain ⟨k, v, hk, rfl, rfl, HJ⟩ := hrel
        by_cases hlt : k < all.length
        · obtain ⟨b, o, x1, rfl, hx1, hxs, hc1⟩ := HSA.out.at hlt
          have hbl := heap_of_at HSA.out hlt rfl
          have c0 := (HJ.out.bel.cell (p := ⟨b, o + k, none⟩) hbl).trans hc1
          have bw := Nat.lt_of_lt_of_le hbl HJ.out.bel.size
          have TK := Lib.hid (show foldN (all.take (k + 1)) = addN (foldN (all.take k)) x1 by rw [List.take_add_one, hx1]; exact foldN_snoc _ _)
          have OK := Lib.hid (show (foldN (all.take k)).length ≤ 2000000 ∧ ∀ p ∈ foldN (all.take k), p.size ≤ 2000000 from by
            have h := foldN_ok (all.take k) []
            refine ⟨by have := List.length_take_le k all; have h1 := h.1; simp only [List.length_nil] at h1; unfold foldN; omega, fun p hp => ?_⟩
            rcases h.2 p hp with h2 | h2
            · simp at h2
            · exact HZ.out p (List.mem_of_mem_take h2))
          clear hx1 hc1
          generalize foldN (all.take k) = acc at *
          cases hem : x1.toList.isEmpty with
          | true =>
            have h2 : (x1.toList == []) = true := by rw [← hem]; cases x1.toList <;> rfl
            have HA2 := Lib.hid (show addN acc x1 = acc by unfold addN; rw [if_pos (by rw [empty_size] at hem; simpa using hem)])
            go_wp2_with fail
            go_roundw
            case rel => exact ⟨k + 1, v, by omega, rfl, by go_num, by rw [TK.out, HA2.out]; exact HJ⟩
            case measure => simp [intOf]; omega
          | false =>
            have h2 : (x1.toList == []) = false := by rw [← hem]; cases x1.toList <;> rfl
            have HA2 := Lib.hid (show addN acc x1 = addName acc x1 by unfold addN; rw [if_neg (by rw [empty_size] at hem; simpa using hem)])
            obtain ⟨a2, p2, rfl, hs2⟩ := HJ.out.own.strs (fun p hp => by have := OK.out.2 p hp; unfold maxLen; omega)
            have S2 := Lib.hid hs2
            clear hs2
            go_wp2_with fail
            refine (among_any a2 _ p2 acc x1 _ S2.out).mono ?_
            rintro e w13 ⟨rfl, rfl⟩
            cases hin : isIn x1 acc with
            | true =>
              have HA3 := Lib.hid (show addName acc x1 = acc by unfold addName; rw [hin]; rfl)
              clear hin
              go_wp2_with fail
              go_roundw
              case rel => exact ⟨k + 1, _, by omega, rfl, by go_num, by rw [TK.out, HA2.out, HA3.out]; exact HJ⟩
              case measure => simp [intOf]; omega
            | false =>
              have HA3 := Lib.hid (show addName acc x1 = acc ++ [x1] by unfold addName; rw [hin]; rfl)
              clear hin
              have J14 := Lib.hid (HJ.out.step ((Below.refl _ _).alloc (Nat.le_refl _) (.cells #[.string x1] 9)))
              have U14 := Lib.hid (one_strs w13 x1 hxs)
              go_wp2_with (first
                | (refine wp_appS rfl (.tmp 86) (.tmp 91) rfl J14.out.own J14.out.bel.size U14.out rfl rfl (by have := OK.out.1; simp; omega) ?_; intro v15 w15 ho hg; have w15A := Lib.hid (J14.out.grown ho hg); clear ho hg))
              go_roundw
              case rel => exact ⟨k + 1, v15, by omega, rfl, by go_num, by rw [TK.out, HA2.out, HA3.out]; exact w15A⟩
              case measure => simp [intOf]; omega
        · obtain rfl : k = all.length := by omega
          have HE := HJ.out
          rw [List.take_length] at HE
          obtain ⟨a', cap', rfl, HP⟩ := nms_done HE (fun p hp => by
            rcases (foldN_ok all []).2 p hp with h2 | h2
            · simp at h2
            · exact HZ.out p h2)
          have HP := Lib.hid HP
          clear HE HJ
          go_wp2_with fail
          go_ret
          obtain ⟨a7, p7, he, h1, h2, h3⟩ := HP.out
          have hww := ((Below.refl w.heap.size w).alloc (Nat.le_refl _) (.cells #[.string nm, .slice bea be.length bec, .slice mia mi.length mic, .slice afa af.length afc, .slice rca rc.length rcc, .slice vra vr.length vrc, .slice rta rt.length rtc, .slice bda bd.length bdc, .slice ena en.length enc] 35)).trans (HBE.out.mono (by simp))
          exact ⟨a7, p7, he, h1, h2.mono hww.size, hww.trans (h3.mono hww.size)⟩
end Go.Proofs.YtciijpahjjoppaaGreat
end
section
namespace Go.Proofs.YtciijpahjjoppaaGreat
open Go.RowKit Go.Shelf Go.Deep Go.Maps

theorem addN_map {h : ByteArray → ByteArray} {A : List ByteArray} (h0 : ∀ x ∈ A, ((h x).size = 0 ↔ x.size = 0)) (hi : ∀ x ∈ A, ∀ y ∈ A, x.size ≠ 0 → y.size ≠ 0 → h x = h y → x = y) {s : List ByteArray} (hs : ∀ y ∈ s, y ∈ A ∧ y.size ≠ 0) {x : ByteArray} (hx : x ∈ A) : addN (s.map h) (h x) = (addN s x).map h := by
  unfold addN
  by_cases e : x.size = 0
  · rw [if_pos e, if_pos ((h0 x hx).2 e)]
  · rw [if_neg e, if_neg (fun e' => e ((h0 x hx).1 e'))]
    unfold addName
    by_cases m : x ∈ s
    · rw [if_pos ((isIn_iff _ _).2 m), if_pos ((isIn_iff _ _).2 (List.mem_map_of_mem m))]
    · rw [if_neg (fun e' => m ((isIn_iff _ _).1 e')), if_neg (fun e' => by
        obtain ⟨y, hy, hxy⟩ := List.mem_map.1 ((isIn_iff _ _).1 e')
        exact m (hi y (hs y hy).1 x hx (hs y hy).2 e hxy ▸ hy))]
      simp
theorem addN_pos {s : List ByteArray} {x y : ByteArray} (hs : ∀ y ∈ s, y.size ≠ 0) (h : y ∈ addN s x) : y.size ≠ 0 := by
  unfold addN addName at h
  split at h
  · exact hs y h
  · rename_i hx
    split at h
    · exact hs y h
    · rcases List.mem_append.1 h with h | h
      · exact hs y h
      · rw [List.mem_singleton.1 h]; exact hx
theorem foldN_map {h : ByteArray → ByteArray} {A : List ByteArray} (h0 : ∀ x ∈ A, ((h x).size = 0 ↔ x.size = 0)) (hi : ∀ x ∈ A, ∀ y ∈ A, x.size ≠ 0 → y.size ≠ 0 → h x = h y → x = y) : ∀ (l s : List ByteArray), (∀ x ∈ l, x ∈ A) → (∀ y ∈ s, y ∈ A ∧ y.size ≠ 0) → (l.map h).foldl addN (s.map h) = (l.foldl addN s).map h
  | [], _, _, _ => rfl
  | x :: l, s, hl, hs => by
    rw [List.map_cons, List.foldl_cons, List.foldl_cons, addN_map h0 hi hs (hl x (by simp))]
    refine foldN_map h0 hi l _ (fun y hy => hl y (by simp [hy])) fun y hy => ⟨?_, addN_pos (fun z hz => (hs z hz).2) hy⟩
    rcases addN_mem hy with hy | rfl
    · exact (hs y hy).1
    · exact hl y (by simp)
theorem addN_nodup {s : List ByteArray} (hs : s.Nodup) (x : ByteArray) : (addN s x).Nodup := by
  unfold addN addName
  split
  · exact hs
  · split
    · exact hs
    · rename_i hx
      have hx' : x ∉ s := fun e => hx ((isIn_iff _ _).2 e)
      rw [List.nodup_append]
      exact ⟨hs, by simp, fun a ha b hb e => hx' (by rw [← List.mem_singleton.1 hb, ← e]; exact ha)⟩
theorem addN_sub {s : List ByteArray} {x y : ByteArray} (h : y ∈ s) : y ∈ addN s x := by
  unfold addN addName
  split
  · exact h
  · split
    · exact h
    · exact List.mem_append.2 (.inl h)
theorem addN_self {s : List ByteArray} {x : ByteArray} (h : x.size ≠ 0) : x ∈ addN s x := by
  unfold addN addName
  rw [if_neg h]
  split
  · rename_i hx; exact (isIn_iff _ _).1 hx
  · simp
theorem foldl_good : ∀ (l s : List ByteArray), s.Nodup → (∀ y ∈ s, y.size ≠ 0) → (l.foldl addN s).Nodup ∧ (∀ y ∈ l.foldl addN s, y.size ≠ 0) ∧ (∀ y ∈ s, y ∈ l.foldl addN s) ∧ ∀ y ∈ l, y.size ≠ 0 → y ∈ l.foldl addN s
  | [], s, h, h2 => ⟨h, h2, fun _ hy => hy, fun y hy => by simp at hy⟩
  | x :: l, s, h, h2 => by
    obtain ⟨g1, g2, g3, g4⟩ := foldl_good l (addN s x) (addN_nodup h x) (fun y hy => addN_pos h2 hy)
    refine ⟨g1, g2, fun y hy => g3 y (addN_sub hy), fun y hy h0 => ?_⟩
    rcases List.mem_cons.1 hy with rfl | hy
    · exact g3 _ (addN_self h0)
    · exact g4 y hy h0

/-- A numeral's number. -/
def valD (l : List UInt8) : Nat := l.foldl (fun a c => 10 * a + (c.toNat - 48)) 0
theorem u8_dig {d : Nat} (h : d < 10) : (UInt8.ofNat (48 + d)).toNat = 48 + d := by
  rw [UInt8.toNat_ofNat']
  omega
theorem valD_dec (u : Nat) : valD (Lib.decDigits u) = u := by
  induction u using Nat.strongRecOn with
  | ind u ih =>
    by_cases h : u < 10
    · rw [Lib.decDigits_one h]
      show 10 * 0 + ((UInt8.ofNat (48 + u)).toNat - 48) = u
      rw [u8_dig h]; omega
    · have h2 := ih (u / 10) (by omega)
      rw [Lib.decDigits, dif_neg h]
      unfold valD at h2 ⊢
      rw [List.foldl_append, h2]
      show 10 * (u / 10) + ((UInt8.ofNat (48 + u % 10)).toNat - 48) = u
      rw [u8_dig (by omega)]; omega
theorem dec_out (u : Nat) : (36 : UInt8) ∉ Lib.decDigits u := by
  have one : ∀ d, d < 10 → (36 : UInt8) ≠ UInt8.ofNat (48 + d) := fun d hd e => by
    have := congrArg UInt8.toNat e
    rw [u8_dig hd] at this
    have h36 : (36 : UInt8).toNat = 36 := rfl
    omega
  induction u using Nat.strongRecOn with
  | ind u ih =>
    by_cases h : u < 10
    · rw [Lib.decDigits_one h]
      intro hm
      exact one u h (List.mem_singleton.1 hm)
    · rw [Lib.decDigits, dif_neg h]
      intro hm
      rcases List.mem_append.1 hm with hm | hm
      · exact ih (u / 10) (by omega) hm
      · exact one _ (by omega) (List.mem_singleton.1 hm)
theorem dec_len {u : Nat} (h : u < 200) : (Lib.decDigits u).length ≤ 3 := by
  by_cases h1 : u < 10
  · rw [Lib.decDigits_one h1]; simp
  · rw [Lib.decDigits, dif_neg h1]
    by_cases h2 : u / 10 < 10
    · rw [Lib.decDigits_one h2]; simp
    · rw [Lib.decDigits, dif_neg h2, Lib.decDigits_one (by omega)]; simp
/-- The other name of the i-th name. -/
def tild (i : Nat) : ByteArray := ba (126 :: (Lib.decDigits i ++ [126]))
theorem tild_inj {i j : Nat} (h : tild i = tild j) : i = j := by
  have e := congrArg (fun b : ByteArray => b.data.toList) h
  unfold tild at e
  simp only [ba_list] at e
  have e2 := List.append_cancel_right (List.cons.inj e).2
  rw [← valD_dec i, ← valD_dec j, e2]
theorem tild_no (i : Nat) : NoD (tild i) := by
  unfold NoD tild
  rw [ba_list]
  intro hm
  rcases List.mem_cons.1 hm with hm | hm
  · exact absurd hm (by decide)
  · rcases List.mem_append.1 hm with hm | hm
    · exact dec_out i hm
    · exact absurd (List.mem_singleton.1 hm) (by decide)
theorem tild_size {i : Nat} (h : i < 200) : (tild i).size ≤ 5 := by
  have := dec_len h
  unfold tild
  rw [ba_size]
  simp only [List.length_cons, List.length_append, List.length_nil]
  omega
theorem tild_pos (i : Nat) : (tild i).size ≠ 0 := by
  unfold tild
  rw [ba_size]
  simp

def thereN (l : List ByteArray) (k : Nat) : List (ByteArray × ByteArray) := (List.range k).map fun j => (l.getD j (ba []), tild j)
def backN (l : List ByteArray) (k : Nat) : List (ByteArray × ByteArray) := (List.range k).map fun j => (tild j, l.getD j (ba []))
theorem thereN_len (l : List ByteArray) (k : Nat) : (thereN l k).length = k := by simp [thereN]
theorem backN_len (l : List ByteArray) (k : Nat) : (backN l k).length = k := by simp [backN]
theorem thereN_succ {l : List ByteArray} {k : Nat} {x : ByteArray} (h : l[k]? = some x) : thereN l (k + 1) = thereN l k ++ [(x, tild k)] := by
  unfold thereN
  rw [List.range_succ, List.map_append, List.map_singleton, List.getD_eq_getElem?_getD, h]
  rfl
theorem backN_succ {l : List ByteArray} {k : Nat} {x : ByteArray} (h : l[k]? = some x) : backN l (k + 1) = backN l k ++ [(tild k, x)] := by
  unfold backN
  rw [List.range_succ, List.map_append, List.map_singleton, List.getD_eq_getElem?_getD, h]
  rfl
theorem there_at {l : List ByteArray} {k i : Nat} (h : i < k) : (thereN l k)[i]? = some (l.getD i (ba []), tild i) := by
  unfold thereN
  rw [List.getElem?_map, List.getElem?_range h]
  rfl
theorem back_at {l : List ByteArray} {k i : Nat} (h : i < k) : (backN l k)[i]? = some (tild i, l.getD i (ba [])) := by
  unfold backN
  rw [List.getElem?_map, List.getElem?_range h]
  rfl
theorem renOf_hit {ps : List (ByteArray × ByteArray)} {x : ByteArray} {i : Nat} {p : ByteArray × ByteArray} (h : ps[i]? = some p) (hp : p.1 = x) (hn : ∀ j q, j < i → ps[j]? = some q → q.1 ≠ x) : renOf ps x = p.2 := by
  obtain ⟨hl, hg⟩ := List.getElem?_eq_some_iff.1 h
  have e : ixOf ps x = some i := by
    unfold ixOf
    rw [List.findIdx?_eq_some_iff_getElem]
    refine ⟨hl, ?_, fun j hj => ?_⟩
    · rw [hg]; exact (beq_iff _ _).2 hp
    · intro hb
      exact hn j _ hj (List.getElem?_eq_getElem (by omega)) ((beq_iff _ _).1 hb)
  unfold renOf
  rw [e]
  simp only []
  rw [List.getD_eq_getElem?_getD, h]
  rfl
section
variable {l : List ByteArray}
theorem getD_at {i : Nat} {x : ByteArray} (h : l[i]? = some x) : l.getD i (ba []) = x := by rw [List.getD_eq_getElem?_getD, h]; rfl
theorem lt_at {i : Nat} {x : ByteArray} (h : l[i]? = some x) : i < l.length := (List.getElem?_eq_some_iff.1 h).1
theorem ren_there (hn : l.Nodup) {i : Nat} {x : ByteArray} (h : l[i]? = some x) : renOf (thereN l l.length) x = tild i := by
  refine renOf_hit (there_at (lt_at h)) (getD_at h) fun j q hj hq => ?_
  have hl := lt_at h
  rw [there_at (by omega)] at hq
  cases hq
  obtain ⟨y, hy⟩ : ∃ y, l[j]? = some y := ⟨_, List.getElem?_eq_getElem (by omega)⟩
  show l.getD j (ba []) ≠ x
  rw [getD_at hy]
  intro e
  subst e
  obtain ⟨hj', ej⟩ := List.getElem?_eq_some_iff.1 hy
  obtain ⟨hi', ei⟩ := List.getElem?_eq_some_iff.1 h
  exact List.pairwise_iff_getElem.1 hn j i hj' hi' hj (ej.trans ei.symm)
theorem ren_back {i : Nat} {x : ByteArray} (h : l[i]? = some x) : renOf (backN l l.length) (tild i) = x := by
  have hl := lt_at h
  have := renOf_hit (x := tild i) (back_at (l := l) hl) rfl fun j q hj hq => by
    rw [back_at (by omega)] at hq
    cases hq
    intro e
    have := tild_inj e
    omega
  rw [this]
  exact getD_at h
end
theorem there_le {l : List ByteArray} (h2 : l.length ≤ 200) (p : ByteArray) : (renPart (thereN l l.length) p).size ≤ p.size + 4 := by
  unfold renPart
  split
  · omega
  · unfold renOf
    split
    · rename_i i hi
      have hl := ixOf_lt hi
      rw [thereN_len] at hl
      rw [List.getD_eq_getElem?_getD, there_at hl]
      have := tild_size (show i < 200 by omega)
      show (tild i).size ≤ _
      omega
    · omega
section
variable {all : List ByteArray}
theorem fold_good : (foldN all).Nodup ∧ (∀ y ∈ foldN all, y.size ≠ 0) ∧ ∀ y ∈ all, y.size ≠ 0 → y ∈ foldN all := by
  have h := foldl_good all [] List.nodup_nil (fun y hy => by simp at hy)
  exact ⟨h.1, h.2.1, h.2.2.2⟩
theorem there_of {p : ByteArray} (hp : p ∈ all) (h0 : p.size ≠ 0) : ∃ i, (foldN all)[i]? = some p ∧ renPart (thereN (foldN all) (foldN all).length) p = tild i := by
  obtain ⟨g1, g2, g3⟩ := fold_good (all := all)
  obtain ⟨i, hi⟩ := List.mem_iff_getElem?.1 (g3 p hp h0)
  refine ⟨i, hi, ?_⟩
  unfold renPart
  rw [if_neg h0]
  exact ren_there g1 hi
theorem there_zero {p : ByteArray} (hp : p ∈ all) : (renPart (thereN (foldN all) (foldN all).length) p).size = 0 ↔ p.size = 0 := by
  by_cases h0 : p.size = 0
  · unfold renPart
    rw [if_pos h0]
  · obtain ⟨i, _, e⟩ := there_of hp h0
    rw [e]
    exact ⟨fun h => absurd h (tild_pos i), fun h => absurd h h0⟩
theorem there_no {p : ByteArray} (hp : p ∈ all) (hn : NoD p) : NoD (renPart (thereN (foldN all) (foldN all).length) p) := by
  by_cases h0 : p.size = 0
  · unfold renPart
    rw [if_pos h0]
    exact hn
  · obtain ⟨i, _, e⟩ := there_of hp h0
    rw [e]
    exact tild_no i
theorem there_back {p : ByteArray} (hp : p ∈ all) : renPart (backN (foldN all) (foldN all).length) (renPart (thereN (foldN all) (foldN all).length) p) = p := by
  by_cases h0 : p.size = 0
  · have e : renPart (thereN (foldN all) (foldN all).length) p = p := by unfold renPart; rw [if_pos h0]
    rw [e]
    unfold renPart
    rw [if_pos h0]
  · obtain ⟨i, hi, e⟩ := there_of hp h0
    rw [e]
    unfold renPart
    rw [if_neg (tild_pos i)]
    exact ren_back hi
/-- As many names as there were. -/
theorem there_count : (foldN (all.map (renPart (thereN (foldN all) (foldN all).length)))).length = (foldN all).length := by
  have h := foldN_map (h := renPart (thereN (foldN all) (foldN all).length)) (A := all) (fun x hx => there_zero hx) (fun x hx y hy _ _ e => by rw [← there_back hx, ← there_back hy, e]) all [] (fun _ h => h) (fun y hy => by simp at hy)
  unfold foldN at h ⊢
  rw [List.map_nil] at h
  rw [h, List.length_map]
end
theorem join_size : ∀ (l : List (List UInt8)), l ≠ [] → (Lib.join l [36]).length + 1 = (l.map fun x => x.length + 1).sum
  | [], h => absurd rfl h
  | [x], _ => by rw [join_one]; simp
  | x :: y :: r, _ => by
    rw [join_two, List.map_cons, List.sum_cons, ← join_size (y :: r) (by simp), List.length_append, List.length_cons]
    omega
theorem joinD_size (l : List ByteArray) (h : l ≠ []) : (joinD l).size + 1 = (l.map fun x => x.size + 1).sum := by
  have := join_size (l.map (·.data.toList)) (by simpa using h)
  rw [List.map_map] at this
  exact this
theorem sum_five {h : ByteArray → ByteArray} (hh : ∀ p, (h p).size ≤ p.size + 4) : ∀ l : List ByteArray, ((l.map h).map fun x => x.size + 1).sum ≤ 5 * (l.map fun x => x.size + 1).sum
  | [] => by simp
  | x :: l => by
    have h1 := sum_five hh l
    have h2 := hh x
    simp only [List.map_cons, List.sum_cons]
    omega
theorem mapName_size {h : ByteArray → ByteArray} (hh : ∀ p, (h p).size ≤ p.size + 4) (s : ByteArray) : (mapName h s).size + 1 ≤ 5 * (s.size + 1) := by
  have h1 := joinD_size ((parts s).map h) (by simp [parts_ne])
  have h2 := joinD_size (parts s) (by simp [parts_ne])
  rw [joinD_parts] at h2
  have h3 := sum_five hh (parts s)
  unfold mapName
  omega
/-- What the law's first renaming makes, and its second. -/
theorem there_all {K K2 : Nat} {x : List D} (hx : ShG x) (h1 : mRow x < K) (hn : (foldN (nG K x)).length ≤ 200) (h2 : 5 * mRow x < K2) :
    ShG (mG (renName (thereN (foldN (nG K x)) (foldN (nG K x)).length)) K x) ∧ mRow (mG (renName (thereN (foldN (nG K x)) (foldN (nG K x)).length)) K x) ≤ 5 * mRow x ∧
    nG K2 (mG (renName (thereN (foldN (nG K x)) (foldN (nG K x)).length)) K x) = (nG K x).map (renPart (thereN (foldN (nG K x)) (foldN (nG K x)).length)) ∧
    mG (renName (backN (foldN (nG K x)) (foldN (nG K x)).length)) K2 (mG (renName (thereN (foldN (nG K x)) (foldN (nG K x)).length)) K x) = x := by
  have hz := mG_sz (renName (thereN (foldN (nG K x)) (foldN (nG K x)).length)) (mapName_size (there_le hn)) K hx
  refine ⟨mG_sh _ K hx, hz, ?_, ?_⟩
  · exact mG_nm _ _ K K2 hx h1 (by omega) fun s hs => mapName_parts _ s fun p hp => there_no (hs p hp) (parts_no s p hp)
  · exact mG_back _ _ K K2 hx h1 (by omega) fun s hs => mapName_back _ _ s (fun p hp => there_no (hs p hp) (parts_no s p hp)) fun p hp => there_back (hs p hp)
end Go.Proofs.YtciijpahjjoppaaGreat
end
section
namespace Go.Proofs.YtciijpahjjoppaaGreat
open Go.RowKit Go.Deep Go.Shelf Go.Maps

def pCells (p : ByteArray × ByteArray) : List Value := [.string p.1, .string p.2]
def pAll (ps : List (ByteArray × ByteArray)) : List Value := ps.flatMap pCells
theorem pCells_len (p : ByteArray × ByteArray) : (pCells p).length = 2 := rfl
theorem pAll_len (ps : List (ByteArray × ByteArray)) : (pAll ps).length = ps.length * 2 := by
  induction ps with
  | nil => rfl
  | cons t r ih => rw [show pAll (t :: r) = pCells t ++ pAll r from rfl, List.length_append, ih, pCells_len, List.length_cons]; omega
theorem pAll_at (ps : List (ByteArray × ByteArray)) (i j : Nat) (t : ByteArray × ByteArray) (h : ps[i]? = some t) (hj : j < 2) : (pAll ps)[i * 2 + j]? = (pCells t)[j]? := by
  induction ps generalizing i with
  | nil => simp at h
  | cons x r ih =>
    rw [show pAll (x :: r) = pCells x ++ pAll r from rfl]
    cases i with
    | zero =>
      simp at h
      subst h
      rw [List.getElem?_append_left (by rw [pCells_len]; omega)]
      congr 1
      omega
    | succ i =>
      rw [List.getElem?_append_right (by rw [pCells_len]; omega), pCells_len, show (i + 1) * 2 + j - 2 = i * 2 + j by omega]
      exact ih i (by simpa using h)
/-- v is a list of pairs of one's own, from the block 'base' on. -/
def OwnP (base : Nat) (w : World) (v : Value) (ps : List (ByteArray × ByteArray)) : Prop := w.ownsRow base 47 2 v ps.length (pAll ps)
theorem OwnP.nil (base : Nat) (w : World) : OwnP base w (.slice none 0 0) [] := World.ownsRow_nil _ _ _ _
theorem OwnP.lt {base : Nat} {w : World} {v : Value} {ps : List (ByteArray × ByteArray)} (h : OwnP base w v ps) (k : Nat) (hk : v.ownBlock = some k) : base ≤ k ∧ k < w.heap.size := World.ownsRow.lt h k hk
theorem OwnP.kept {base : Nat} {w w' : World} {v : Value} {ps : List (ByteArray × ByteArray)} (h : OwnP base w v ps) (hb : ∀ k, v.ownBlock = some k → w'.heap[k]? = w.heap[k]?) : OwnP base w' v ps := by
  refine ⟨h.1, ?_⟩
  rcases h.2 with h4 | ⟨g, cap, cur, hv, hb', hg, r⟩
  · exact .inl h4
  · exact .inr ⟨g, cap, cur, hv, hb', (hb g (by rw [hv]; rfl)).trans hg, r⟩
theorem OwnP.below {base : Nat} {w w' : World} {v : Value} {ps : List (ByteArray × ByteArray)} (h : OwnP base w v ps) (hb : Below w.heap.size w w') : OwnP base w' v ps :=
  h.kept fun k hk => hb.block k (h.lt k hk).2
/-- The slice, and where its cells lie. -/
theorem OwnP.slice {base : Nat} {w : World} {v : Value} {ps : List (ByteArray × ByteArray)} (h : OwnP base w v ps) : (v = .slice none 0 0 ∧ ps = []) ∨ ∃ g cap, v = .slice (some ⟨g, 0, none⟩) ps.length cap ∧ base ≤ g ∧ g < w.heap.size ∧ ps.length ≤ cap ∧ cap ≤ maxLen ∧ ∀ i t, ps[i]? = some t → w.cell? ⟨g, i * 2, none⟩ = some (.string t.1) ∧ w.cell? ⟨g, i * 2 + 1, none⟩ = some (.string t.2) := by
  rcases h.2 with ⟨rfl, h4⟩ | ⟨g, cap, cur, rfl, hb, hg, hn, hm, hs, ht⟩
  · exact .inl ⟨rfl, List.eq_nil_of_length_eq_zero h4⟩
  · have C : ∀ i t, ps[i]? = some t → ∀ j u, (pCells t)[j]? = some u → w.cell? ⟨g, i * 2 + j, none⟩ = some u := fun i t hi j u hj => by
      have hj7 : j < 2 := by have := (List.getElem?_eq_some_iff.1 hj).1; rw [pCells_len] at this; exact this
      have hil : i < ps.length := (List.getElem?_eq_some_iff.1 hi).1
      have h1 := pAll_at ps i j t hi hj7
      rw [hj, ← ht, List.getElem?_take_of_lt (by omega)] at h1
      unfold World.cell?
      simp only [hg]
      simpa using h1
    exact .inr ⟨g, cap, rfl, hb, heap_lt hg, hn, hm, fun i t hi => ⟨C i t hi 0 _ rfl, C i t hi 1 _ rfl⟩⟩
theorem OwnP.pairs {base : Nat} {w : World} {v : Value} {ps : List (ByteArray × ByteArray)} (h : OwnP base w v ps) (hz : ∀ p ∈ ps, p.1.size ≤ lim ∧ p.2.size ≤ lim) : ∃ a cap, v = .slice a ps.length cap ∧ PairsAt w a ps.length cap ps := by
  rcases h.slice with ⟨rfl, rfl⟩ | ⟨g, cap, rfl, hb, hg, hn, hm, hc⟩
  · exact ⟨none, 0, rfl, rfl, Nat.le_refl _, by decide, hz, .inl rfl⟩
  · exact ⟨_, cap, rfl, rfl, hn, hm, hz, .inr ⟨g, 0, rfl, hg, fun j p hp => by simpa using hc j p hp⟩⟩
/-- Two own lists whose first pairs are not the same lie in two blocks. -/
theorem OwnP.apart {b1 b2 : Nat} {w : World} {v1 v2 : Value} {p q : ByteArray × ByteArray} {ps qs : List (ByteArray × ByteArray)} (h1 : OwnP b1 w v1 ps) (h2 : OwnP b2 w v2 qs) (hp : ps[0]? = some p) (hq : qs[0]? = some q) (hn : p.1 ≠ q.1) {g : Nat} (e1 : v1.ownBlock = some g) : v2.ownBlock ≠ some g := by
  intro e2
  rcases h1.slice with ⟨rfl, rfl⟩ | ⟨g1, c1, rfl, -, -, -, -, hc1⟩
  · simp at hp
  rcases h2.slice with ⟨rfl, rfl⟩ | ⟨g2, c2, rfl, -, -, -, -, hc2⟩
  · simp at hq
  cases e1
  cases e2
  have e := (hc1 0 p hp).1.symm.trans (hc2 0 q hq).1
  exact hn (Value.string.inj (Option.some.inj e))
theorem info47 : (Tryz.prog.info? 47).map (fun i => (i.zero, i.size, i.bytes)) = some (some (.agg #[.string ⟨#[]⟩, .string ⟨#[]⟩]), 2, 32) := by kernel_rfl
theorem run_appP {base : Nat} {w : World} {v : Value} {ps : List (ByteArray × ByteArray)} (ty : TypeId) (h : OwnP base w v ps) (hbase : base ≤ w.heap.size) {b o m cap : Nat} {ns : List (ByteArray × ByteArray)}
    (hm : ns.length = m) (hn : ∀ j u, (pAll ns)[j]? = some u → w.cell? ⟨b, o + j, none⟩ = some u) (hb : ps.length + m ≤ 1000000) :
    ∃ v' w', (Builtin.append_ #[44, 44] ty #[v, .slice (some ⟨b, o, none⟩) m cap]).run Tryz.prog w = .ok v' w' ∧ OwnP base w' v' (ps ++ ns) ∧ w.grownBy w' v.ownBlock := by
  obtain ⟨i, hi, hz0, hz1, hz2⟩ := info_parts info47
  obtain ⟨v', w', h1, h2, h3, _⟩ := run_append_own (P := Tryz.prog) w base 44 ty 47 i _ 2 32 Tryz.underlying44 hi hz0 hz1 hz2 rfl (by decide) v ps.length (pAll ps) h ⟨b, o, none⟩ m cap (pAll ns) (by rw [pAll_len, hm]) (fun j u hu => by rw [add_mid2]; exact hn j u hu) (by
    intro u hu
    unfold pAll at hu
    obtain ⟨t, _, ht⟩ := List.mem_flatMap.1 hu
    simp only [pCells, List.mem_cons, List.mem_nil_iff, or_false] at ht
    rcases ht with rfl | rfl <;> rfl) (by unfold maxLen; omega) (by omega) hbase
  refine ⟨v', w', h1, ?_, h3⟩
  unfold OwnP
  rw [List.length_append, hm, show pAll (ps ++ ns) = pAll ps ++ pAll ns by simp [pAll]]
  exact h2
theorem wp_appP {ops : Array Oper} {rest : List Oper} {o : Oper} {a : Act} {Q : Exit → Act → World → Prop} (hgd : o.guard = none) (sl x : Operand)
    (ho : o.op = .call { callee := .builtin .append, args := #[sl, x], argTypes := #[44, 44] })
    {base : Nat} {w : World} {v : Value} {ps : List (ByteArray × ByteArray)} (t : ByteArray × ByteArray) (cs : Array Value) (hcs : cs.toList = pCells t) (h : OwnP base w v ps) (hbase : base ≤ w.heap.size) (hs : a.eval sl = v) (hx : a.eval x = .slice (some ⟨w.heap.size, 0, none⟩) 1 1) (hb : ps.length ≤ 100000)
    (hk : ∀ v' w', OwnP base w' v' (ps ++ [t]) → (w.alloc (.cells cs 47)).grownBy w' v.ownBlock → wpList Tryz.prog ops Q rest (a.put o.dst v') w') :
    wpList Tryz.prog ops Q (o :: rest) a (w.alloc (.cells cs 47)) := by
  refine wpList_plain hgd fun K hK => ?_
  obtain ⟨v', w', hr, h2, h3⟩ := run_appP (w := w.alloc (.cells cs 47)) o.type (h.below ((Below.refl _ _).alloc (Nat.le_refl _) _)) (by simp; omega) (b := w.heap.size) (o := 0) (m := 1) (cap := 1) (ns := [t]) rfl (fun j u hu => by
    have e := heap_new w (.cells cs 47)
    rw [show pAll [t] = pCells t by simp [pAll], ← hcs] at hu
    unfold World.cell?
    simp only [e]
    simpa using hu) (by omega)
  unfold Oper.wp execOp
  simp only [ho, resolve, invoke, builtin, Sem.run_bind, Sem.run_pure, Result.andThen_ok, List.map_toArray, List.map_cons, List.map_nil, hs, hx, hr]
  exact hK _ _ (hk v' w' h2 h3)
end Go.Proofs.YtciijpahjjoppaaGreat
end
section
namespace Go.Proofs.YtciijpahjjoppaaGreat
open Go.RowKit Go.Deep Go.Shelf Go.Maps

theorem below_grown {B : Nat} {w w' : World} {row : Option Nat} (g : w.grownBy w' row) (hB : B ≤ w.heap.size) (hr : ∀ k, row = some k → B ≤ k) : Below B w w' :=
  ⟨g.os, g.tape, g.output, g.size, fun k hk => g.block k (by omega) fun e => by have := hr k e.symm; omega⟩
/-- The law's state ahead of its k-th round. -/
structure BkJ (W2 : World) (ns : List ByteArray) (k : Nat) (v1 v2 : Value) (wr : World) : Prop where
  zero : k = 0 → v1 = .slice none 0 0 ∧ v2 = .slice none 0 0
  own1 : OwnP W2.heap.size wr v1 (thereN ns k)
  own2 : OwnP W2.heap.size wr v2 (backN ns k)
  bel : Below W2.heap.size W2 wr
  ne : ∀ i, i < k → tild i ∉ ns
/-- In the midst of it. -/
structure BkM (W2 : World) (ns : List ByteArray) (k : Nat) (v1 v2 : Value) (wr : World) : Prop where
  zero : k = 0 → v2 = .slice none 0 0
  own1 : OwnP W2.heap.size wr v1 (thereN ns (k + 1))
  own2 : OwnP W2.heap.size wr v2 (backN ns k)
  bel : Below W2.heap.size W2 wr
  ne : ∀ i, i < k + 1 → tild i ∉ ns
theorem BkJ.start (W2 : World) (ns : List ByteArray) : BkJ W2 ns 0 (.slice none 0 0) (.slice none 0 0) W2 :=
  ⟨fun _ => ⟨rfl, rfl⟩, OwnP.nil _ _, OwnP.nil _ _, Below.refl _ _, fun i hi => by omega⟩
theorem BkJ.step {W2 : World} {ns : List ByteArray} {k : Nat} {v1 v2 : Value} {wr wr' : World} (h : BkJ W2 ns k v1 v2 wr) (b : Below wr.heap.size wr wr') : BkJ W2 ns k v1 v2 wr' :=
  ⟨h.zero, h.own1.below b, h.own2.below b, h.bel.trans (b.mono h.bel.size), h.ne⟩
theorem BkM.step {W2 : World} {ns : List ByteArray} {k : Nat} {v1 v2 : Value} {wr wr' : World} (h : BkM W2 ns k v1 v2 wr) (b : Below wr.heap.size wr wr') : BkM W2 ns k v1 v2 wr' :=
  ⟨h.zero, h.own1.below b, h.own2.below b, h.bel.trans (b.mono h.bel.size), h.ne⟩
theorem first_ne {ns : List ByteArray} {k j i : Nat} {x : ByteArray} (hx : ns[i]? = some x) (hk : 0 < k) (hj : 0 < j) (h : tild 0 ∉ ns) : ∃ p q, (thereN ns k)[0]? = some p ∧ (backN ns j)[0]? = some q ∧ p.1 ≠ q.1 := by
  refine ⟨_, _, there_at hk, back_at hj, ?_⟩
  have hl := lt_at hx
  obtain ⟨y, hy⟩ : ∃ y, ns[0]? = some y := ⟨_, List.getElem?_eq_getElem (by omega)⟩
  show ns.getD 0 (ba []) ≠ tild 0
  rw [getD_at hy]
  intro e
  exact h (e ▸ List.mem_of_getElem? hy)
theorem BkJ.app {W2 : World} {ns : List ByteArray} {k : Nat} {v1 v2 v1' : Value} {wr w1 : World} {o : Obj} {x : ByteArray} (h : BkJ W2 ns k v1 v2 wr) (hx : ns[k]? = some x) (hn : tild k ∉ ns) (h1 : OwnP W2.heap.size w1 v1' (thereN ns k ++ [(x, tild k)])) (g : (wr.alloc o).grownBy w1 v1.ownBlock) : BkM W2 ns k v1' v2 w1 := by
  have b0 : Below wr.heap.size wr (wr.alloc o) := (Below.refl _ _).alloc (Nat.le_refl _) _
  have ne' : ∀ i, i < k + 1 → tild i ∉ ns := fun i hi => by
    rcases Nat.lt_or_ge i k with h' | h'
    · exact h.ne i h'
    · rwa [show i = k by omega]
  refine ⟨fun e => (h.zero e).2, by rw [thereN_succ hx]; exact h1, ?_, ?_, ne'⟩
  · refine h.own2.kept fun c hc => ?_
    have hlt := (h.own2.lt c hc).2
    refine (g.block c (Nat.lt_of_lt_of_le hlt b0.size) fun e => ?_).trans (b0.block c hlt)
    rcases Nat.eq_zero_or_pos k with h0 | h0
    · rw [(h.zero h0).2] at hc
      cases hc
    · obtain ⟨p, q, e1, e2, e3⟩ := first_ne hx h0 h0 (ne' 0 (by omega))
      exact h.own1.apart h.own2 e1 e2 e3 e.symm hc
  · exact h.bel.trans ((b0.mono h.bel.size).trans (below_grown g (Nat.le_trans h.bel.size b0.size) fun c hc => (h.own1.lt c hc).1))
theorem BkM.app {W2 : World} {ns : List ByteArray} {k : Nat} {v1 v2 v2' : Value} {wr w1 : World} {o : Obj} {x : ByteArray} (h : BkM W2 ns k v1 v2 wr) (hx : ns[k]? = some x) (h2 : OwnP W2.heap.size w1 v2' (backN ns k ++ [(tild k, x)])) (g : (wr.alloc o).grownBy w1 v2.ownBlock) : BkJ W2 ns (k + 1) v1 v2' w1 := by
  have b0 : Below wr.heap.size wr (wr.alloc o) := (Below.refl _ _).alloc (Nat.le_refl _) _
  refine ⟨fun e => by omega, ?_, by rw [backN_succ hx]; exact h2, ?_, h.ne⟩
  · refine h.own1.kept fun c hc => ?_
    have hlt := (h.own1.lt c hc).2
    refine (g.block c (Nat.lt_of_lt_of_le hlt b0.size) fun e => ?_).trans (b0.block c hlt)
    rcases Nat.eq_zero_or_pos k with h0 | h0
    · rw [h.zero h0] at e
      cases e
    · obtain ⟨p, q, e1, e2, e3⟩ := first_ne hx (show 0 < k + 1 by omega) h0 (h.ne 0 (by omega))
      exact h.own1.apart h.own2 e1 e2 e3 hc e.symm
  · exact h.bel.trans ((b0.mono h.bel.size).trans (below_grown g (Nat.le_trans h.bel.size b0.size) fun c hc => (h.own2.lt c hc).1))
theorem there_lim {ns : List ByteArray} (h2 : ns.length ≤ 200) (hz : ∀ p ∈ ns, p.size ≤ lim) : ∀ p ∈ thereN ns ns.length, p.1.size ≤ lim ∧ p.2.size ≤ lim := fun p hp => by
  obtain ⟨i, hi, rfl⟩ := List.mem_map.1 hp
  rw [List.mem_range] at hi
  have h1 := tild_size (show i < 200 by omega)
  obtain ⟨y, hy⟩ : ∃ y, ns[i]? = some y := ⟨_, List.getElem?_eq_getElem hi⟩
  refine ⟨?_, by show (tild i).size ≤ lim; unfold lim; omega⟩
  show (ns.getD i (ba [])).size ≤ lim
  rw [getD_at hy]
  exact hz y (List.mem_of_getElem? hy)
theorem back_lim {ns : List ByteArray} (h2 : ns.length ≤ 200) (hz : ∀ p ∈ ns, p.size ≤ lim) : ∀ p ∈ backN ns ns.length, p.1.size ≤ lim ∧ p.2.size ≤ lim := fun p hp => by
  obtain ⟨i, hi, rfl⟩ := List.mem_map.1 hp
  have := there_lim h2 hz _ (List.mem_map_of_mem hi)
  exact ⟨this.2, this.1⟩
/-- The inner loop's search. -/
theorem take_no {ns : List ByteArray} {j : Nat} {x n : ByteArray} (hx : ns[j]? = some x) (h : isIn n (ns.take j) = false) (hn : (x.toList == n.toList) = false) : isIn n (ns.take (j + 1)) = false := isIn_take_succ hx h hn
theorem not_in {n : ByteArray} {ns : List ByteArray} (h : isIn n (ns.take ns.length) = false) : n ∉ ns := fun e => by
  rw [List.take_length] at h
  rw [(isIn_iff _ _).2 e] at h
  cases h
end Go.Proofs.YtciijpahjjoppaaGreat
end
section
namespace Go.Proofs.YtciijpahjjoppaaGreat
open Go.RowKit Go.Deep Go.Shelf Go.Maps

set_option maxRecDepth 100000 in
set_option maxHeartbeats 4000000 in
theorem names_great (K : Nat) (w : World) (x : List D) (vs : List Value) (hx : ShG x) (hK : mRow x < K) (hb : mRow x ≤ 8000000) (hl : (nG K x).length ≤ 2000000) (hv : AllAt w vs x) : Calls Tryz.prog 19 #[.agg ⟨vs⟩] w (NamPost ((namClo (w.heap.size + 1)).pts [] (nG K x)).2 w) := by
  have hmm := @run_makeMap Tryz.prog
  have HT := Lib.hid (tprogram_all (namClo (w.heap.size + 1)) (.inl rfl) (fun _ _ h => h) w (show w.heap.size ≤ w.heap.size + 1 by omega) K x hx hK (by omega) vs hv)
  have HN := Lib.hid hl
  have HST := Lib.hid (fun s => tG_state (namClo (w.heap.size + 1)) K s hx)
  obtain ⟨nm, be, mi, af, rc, vr, rt, bd, en, bea, bec, mia, mic, afa, afc, rca, rcc, vra, vrc, rta, rtc, bda, bdc, ena, enc, hxe, rfl, _⟩ := hv.openG hx
  clear hv hx hxe
  go_enter Tryz.func19, Tryz.ntmps19
  have LN := Lib.hid (show ([.func (.func 50) #[] #[.pointer (some ⟨w.heap.size + 1 + 1 + 1, 0, none⟩), .pointer (some ⟨w.heap.size + 1, 0, none⟩)]] : List Value).length = 1 from rfl)
  have ON := Lib.hid (show ∀ v ∈ ([.func (.func 50) #[] #[.pointer (some ⟨w.heap.size + 1 + 1 + 1, 0, none⟩), .pointer (some ⟨w.heap.size + 1, 0, none⟩)]] : List Value), v.oneCell' = true by intro v hv; simp at hv; subst hv; rfl)
  go_wp2_with (first
    | ((with_reducible refine wp_storeNew (o := ⟨none, .store 97 (.tmp 5) (.tmp 8), _, _, _, _⟩) rfl (.tmp 5) (.tmp 8) 97 rfl 1 Tryz.sizeOf97 _ ?_ ?_ [.func (.func 50) #[] #[.pointer (some ⟨w.heap.size + 1 + 1 + 1, 0, none⟩), .pointer (some ⟨w.heap.size + 1, 0, none⟩)]] ?_ LN.out ON.out ?_); rfl; (simp only [World.size_alloc]; rfl); rfl))
  have I0 := Lib.hid (namesW0 w (.cells #[.string nm, .slice bea be.length bec, .slice mia mi.length mic, .slice afa af.length afc, .slice rca rc.length rcc, .slice vra vr.length vrc, .slice rta rt.length rtc, .slice bda bd.length bdc, .slice ena en.length enc] 35) #[.func (.func 50) #[] #[.pointer (some ⟨w.heap.size + 1 + 1 + 1, 0, none⟩), .pointer (some ⟨w.heap.size + 1, 0, none⟩)]] (0 + (nG K x).length) (by have := HN.out; omega))
  have B0 := Lib.hid (below5 w (.cells #[.string nm, .slice bea be.length bec, .slice mia mi.length mic, .slice afa af.length afc, .slice rca rc.length rcc, .slice vra vr.length vrc, .slice rta rt.length rtc, .slice bda bd.length bdc, .slice ena en.length enc] 35) (.cells #[.slice none 0 0] 29) (.map #[] 0) (.cells #[.map (some (w.heap.size + 1 + 1))] 92) (.cells #[.func (.func 50) #[] #[.pointer (some ⟨w.heap.size + 1 + 1 + 1, 0, none⟩), .pointer (some ⟨w.heap.size + 1, 0, none⟩)]] 97))
  refine (HT.out 0 _ [] _ (Nat.le_refl _) I0.out B0.out).mono ?_
  rintro e W1 ⟨vs', rfl, _, i1, k1⟩
  have B1 := Lib.hid (k1.toBelow B0.out (Nat.le_refl _) (fun c hc ho => by have := ((namClo (w.heap.size + 1)).ltO I0.out ho).1; have : w.heap.size + 1 ≤ c := this; omega))
  have I1 : NamesI (w.heap.size + 1) 0 ((namClo (w.heap.size + 1)).pts [] (nG K x)).2 W1 := by
    have h : NamesI (w.heap.size + 1) 0 (tG (namClo (w.heap.size + 1)) K [] x).2 W1 := i1
    rwa [HST.out] at h
  obtain ⟨v, hv, hr⟩ := I1.row
  have HR := Lib.hid hr
  have cv := hv.cell
  clear I1 i1 k1 hr hv
  go_wp2_with fail
  go_ret
  exact ⟨v, rfl, ownS_mono HR.out (by omega), B1.out⟩
end Go.Proofs.YtciijpahjjoppaaGreat
end
section
namespace Go.Proofs.YtciijpahjjoppaaGreat
open Go.RowKit Go.Deep Go.Shelf Go.Maps

theorem newN_to {σ : Type} {g : Nat} {c1 c2 : Value} {C : Clo σ g c1 c2} {lo n : Nat} {W W' : World} (hs : W.heap.size ≤ W'.heap.size) (hb : ∀ b, b < W.heap.size → ¬ (lo ≤ b ∧ b < n) → W'.heap[b]? = W.heap[b]?) : Sub (NewN C lo n W) W' := by
  refine ⟨by unfold NewN; rw [mk_size]; exact hs, fun b i v h => ?_⟩
  have hl := cell_lt h
  unfold NewN at hl h
  rw [mk_size] at hl
  by_cases hp : C.O W b ∨ (lo ≤ b ∧ b < n)
  · rw [mk_out W hp] at h; cases h
  · rw [← h]
    exact cell_eq ((hb b hl fun e => hp (.inr e)).trans (mk_get W hp).symm)
set_option maxRecDepth 100000 in
set_option maxHeartbeats 8000000 in
theorem rename_any (K : Nat) (w : World) (x : List D) (vs : List Value) (hx : ShG x) (hK : mRow x < K) (hb : mRow x ≤ 8000000) (hv : AllAt w vs x) (a : Option Addr) (len cap : Nat) (ps : List (ByteArray × ByteArray)) (hP : PairsAt w a len cap ps) : Calls Tryz.prog 22 #[.agg ⟨vs⟩, .slice a len cap] w fun e w' => ∃ vs', e = .returned (.agg ⟨vs'⟩) ∧ AllAt w' vs' (mG (renName ps) K x) ∧ Below w.heap.size w w' := by
  have HT := Lib.hid (fun (r : RenB) (hr : r.ps = ps) (hl : w.heap.size ≤ r.low) => tprogram_all (renClo r) (.inr rfl) (fun _ x hx => by show (renOf r.ps x).size ≤ lim; rw [hr]; exact renOf_le hP.2.2.2.1 hx) w hl K x hx hK hb vs hv)
  have HM := Lib.hid (fun (r : RenB) (hr : r.ps = ps) => (show (tG (renClo r) K () x).1 = mG (renName ps) K x by rw [← hr]; exact tG_map r K hx))
  have HL9 := Lib.hid (show (mG (renName ps) K x).length = 9 by cases hx; rfl)
  obtain ⟨nm, be, mi, af, rc, vr, rt, bd, en, bea, bec, mia, mic, afa, afc, rca, rcc, vra, vrc, rta, rtc, bda, bdc, ena, enc, hxe, rfl, _⟩ := hv.openG hx
  clear hv hx hxe hb hK
  have HP := Lib.hid hP
  clear hP
  obtain ⟨w0, hw0⟩ : ∃ w0, w0 = ((w.alloc (.cells #[.string nm, .slice bea be.length bec, .slice mia mi.length mic, .slice afa af.length afc, .slice rca rc.length rcc, .slice vra vr.length vrc, .slice rta rt.length rtc, .slice bda bd.length bdc, .slice ena en.length enc] 35)).alloc (.cells #[.slice a len cap] 44)).alloc (.cells #[.string ⟨#[]⟩, .slice none 0 0, .slice none 0 0, .slice none 0 0, .slice none 0 0, .slice none 0 0, .slice none 0 0, .slice none 0 0, .slice none 0 0] 35) := ⟨_, rfl⟩
  have B0 : Below w.heap.size w w0 := by rw [hw0]; exact (((Below.refl _ w).alloc (Nat.le_refl _) _).alloc (by simp) _).alloc (by simp; omega) _
  have z0 : w0.heap.size = w.heap.size + 3 := by rw [hw0]; simp
  have a3 := (Below.refl ((w.alloc (.cells #[.string nm, .slice bea be.length bec, .slice mia mi.length mic, .slice afa af.length afc, .slice rca rc.length rcc, .slice vra vr.length vrc, .slice rta rt.length rtc, .slice bda bd.length bdc, .slice ena en.length enc] 35)).alloc (.cells #[.slice a len cap] 44)).heap.size ((w.alloc (.cells #[.string nm, .slice bea be.length bec, .slice mia mi.length mic, .slice afa af.length afc, .slice rca rc.length rcc, .slice vra vr.length vrc, .slice rta rt.length rtc, .slice bda bd.length bdc, .slice ena en.length enc] 35)).alloc (.cells #[.slice a len cap] 44))).alloc (Nat.le_refl _) (.cells #[.string ⟨#[]⟩, .slice none 0 0, .slice none 0 0, .slice none 0 0, .slice none 0 0, .slice none 0 0, .slice none 0 0, .slice none 0 0, .slice none 0 0] 35)
  have k0 : w0.heap[w.heap.size]? = some (.cells #[.string nm, .slice bea be.length bec, .slice mia mi.length mic, .slice afa af.length afc, .slice rca rc.length rcc, .slice vra vr.length vrc, .slice rta rt.length rtc, .slice bda bd.length bdc, .slice ena en.length enc] 35) := by rw [hw0]; exact (a3.block _ (by simp; omega)).trans (box_first w _ _)
  have k1 : w0.heap[w.heap.size + 1]? = some (.cells #[.slice a len cap] 44) := by rw [hw0]; exact (a3.block _ (by simp)).trans (box_second w _ _)
  have k2 : w0.heap[w.heap.size + 2]? = some (.cells #[.string ⟨#[]⟩, .slice none 0 0, .slice none 0 0, .slice none 0 0, .slice none 0 0, .slice none 0 0, .slice none 0 0, .slice none 0 0, .slice none 0 0] 35) := by
    have := heap_new ((w.alloc (.cells #[.string nm, .slice bea be.length bec, .slice mia mi.length mic, .slice afa af.length afc, .slice rca rc.length rcc, .slice vra vr.length vrc, .slice rta rt.length rtc, .slice bda bd.length bdc, .slice ena en.length enc] 35)).alloc (.cells #[.slice a len cap] 44)) (.cells #[.string ⟨#[]⟩, .slice none 0 0, .slice none 0 0, .slice none 0 0, .slice none 0 0, .slice none 0 0, .slice none 0 0, .slice none 0 0, .slice none 0 0] 35)
    simp only [World.size_alloc] at this
    rw [hw0]
    exact this
  have HB0 := Lib.hid B0
  have Z0 := Lib.hid z0
  have K0 := Lib.hid k0
  have K1 := Lib.hid k1
  have K2 := Lib.hid k2
  have HW0 := Lib.hid hw0
  clear B0 z0 k0 k1 k2 a3 hw0
  go_enter Tryz.func22, Tryz.ntmps22
  go_wp2_with fail
  rw [← HW0.out]
  refine (firstOf_any a len cap ps w0 (HP.out.kept HB0.out.size fun b hb => HB0.out.block b hb)).mono ?_
  rw [Z0.out]
  rintro e w3 ⟨rfl, hm, b3⟩
  have S3 : w.heap.size + 4 ≤ w3.heap.size := by
    obtain ⟨D, n, h1, _⟩ := hm
    have hlt : w.heap.size + 3 < w3.heap.size := by
      have h1' : w3.ownsMap Tryz.prog 9 (plainElem Tryz.prog 3) (w.heap.size + 3) n D := h1
      unfold World.ownsMap at h1'
      obtain ⟨es, c, h2, _⟩ := h1'
      exact heap_lt h2
    omega
  have kp : w3.heap[w.heap.size]? = some (.cells #[.string nm, .slice bea be.length bec, .slice mia mi.length mic, .slice afa af.length afc, .slice rca rc.length rcc, .slice vra vr.length vrc, .slice rta rt.length rtc, .slice bda bd.length bdc, .slice ena en.length enc] 35) := (b3.block _ (by omega)).trans K0.out
  have B3 := Lib.hid (show Below w.heap.size w w3 from HB0.out.trans (b3.mono (by omega)))
  have K13 := Lib.hid ((b3.block _ (show w.heap.size + 1 < w.heap.size + 3 by omega)).trans K1.out)
  have K23 := Lib.hid ((b3.block _ (show w.heap.size + 2 < w.heap.size + 3 by omega)).trans K2.out)
  have HM0 := Lib.hid hm
  have cp := box_cells kp
  have KP := Lib.hid kp
  clear hm b3 kp
  have LN := Lib.hid (show ([.func (.func 59) #[] #[.pointer (some ⟨w3.heap.size, 0, none⟩), .pointer (some ⟨w.heap.size + 1, 0, none⟩)]] : List Value).length = 1 from rfl)
  have ON := Lib.hid (show ∀ v ∈ ([.func (.func 59) #[] #[.pointer (some ⟨w3.heap.size, 0, none⟩), .pointer (some ⟨w.heap.size + 1, 0, none⟩)]] : List Value), v.oneCell' = true by intro v hv; simp at hv; subst hv; rfl)
  have b5 := ((Below.refl w3.heap.size w3).alloc (Nat.le_refl _) (.cells #[.map (some (w.heap.size + 3))] 106)).alloc (by simp) (.cells #[.func (.func 59) #[] #[.pointer (some ⟨w3.heap.size, 0, none⟩), .pointer (some ⟨w.heap.size + 1, 0, none⟩)]] 97)
  have C5 := Lib.hid (show ∀ (j : Nat) (v : Value), ([.string nm, .slice bea be.length bec, .slice mia mi.length mic, .slice afa af.length afc, .slice rca rc.length rcc, .slice vra vr.length vrc, .slice rta rt.length rtc, .slice bda bd.length bdc, .slice ena en.length enc] : List Value)[j]? = some v → ((w3.alloc (.cells #[.map (some (w.heap.size + 3))] 106)).alloc (.cells #[.func (.func 59) #[] #[.pointer (some ⟨w3.heap.size, 0, none⟩), .pointer (some ⟨w.heap.size + 1, 0, none⟩)]] 97)).cell? ⟨w.heap.size, 0 + j, none⟩ = some v from fun j v hv => by
    rw [box_cells ((b5.block _ (heap_lt KP.out)).trans KP.out), Nat.zero_add]
    simpa using hv)
  have L9 := Lib.hid (show ([.string nm, .slice bea be.length bec, .slice mia mi.length mic, .slice afa af.length afc, .slice rca rc.length rcc, .slice vra vr.length vrc, .slice rta rt.length rtc, .slice bda bd.length bdc, .slice ena en.length enc] : List Value).length = 9 from rfl)
  have I5 := Lib.hid (renW0 w w3 a len cap ps #[.func (.func 59) #[] #[.pointer (some ⟨w3.heap.size, 0, none⟩), .pointer (some ⟨w.heap.size + 1, 0, none⟩)]] HP.out S3 (fun b hb => B3.out.block b hb) K13.out HM0.out)
  have B5 := Lib.hid (B3.out.trans (b5.mono B3.out.size))
  have K25 := Lib.hid ((b5.block _ (heap_lt K23.out)).trans K23.out)
  clear b5
  go_wp2_with (first
    | ((with_reducible refine wp_storeNew (o := ⟨none, .store 97 (.tmp 6) (.tmp 10), _, _, _, _⟩) rfl (.tmp 6) (.tmp 10) 97 rfl 1 Tryz.sizeOf97 _ ?_ ?_ [.func (.func 59) #[] #[.pointer (some ⟨w3.heap.size, 0, none⟩), .pointer (some ⟨w.heap.size + 1, 0, none⟩)]] ?_ LN.out ON.out ?_); rfl; (simp only [World.size_alloc]; rfl); rfl)
    | ((with_reducible refine wp_loadAgg (o := ⟨some 12, _, _, _, _, _⟩) rfl (.tmp 2) 35 rfl 9 Tryz.isAgg35 Tryz.sizeOf35 w.heap.size 0 ?_ [.string nm, .slice bea be.length bec, .slice mia mi.length mic, .slice afa af.length afc, .slice rca rc.length rcc, .slice vra vr.length vrc, .slice rta rt.length rtc, .slice bda bd.length bdc, .slice ena en.length enc] L9.out C5.out ?_); rfl))
  refine (HT.out ⟨w.heap.size + 1, w.heap.size + 3, w3.heap.size, w.heap.size + 1, w3.heap.size + 2, a, len, cap, ps⟩ rfl (Nat.le_succ _) 0 _ () _ (Nat.le_refl _) (show (renClo ⟨w.heap.size + 1, w.heap.size + 3, w3.heap.size, w.heap.size + 1, w3.heap.size + 2, a, len, cap, ps⟩).I _ () _ from I5.out) B5.out).mono ?_
  rintro e W6 ⟨vs', rfl, hd, _, k6⟩
  rw [HM.out ⟨w.heap.size + 1, w.heap.size + 3, w3.heap.size, w.heap.size + 1, w3.heap.size + 2, a, len, cap, ps⟩ rfl] at hd
  have HDL := Lib.hid (hd.len.trans HL9.out)
  have HDO := Lib.hid hd.one
  have HDD := Lib.hid hd
  have hnO : ∀ c, c < w.heap.size ∨ c = w.heap.size + 2 → ¬ RenO ⟨w.heap.size + 1, w.heap.size + 3, w3.heap.size, w.heap.size + 1, w3.heap.size + 2, a, len, cap, ps⟩ ((w3.alloc (.cells #[.map (some (w.heap.size + 3))] 106)).alloc (.cells #[.func (.func 59) #[] #[.pointer (some ⟨w3.heap.size, 0, none⟩), .pointer (some ⟨w.heap.size + 1, 0, none⟩)]] 97)) c := fun c hc ho => by
    have ho' : c = w.heap.size + 1 ∨ c = w.heap.size + 3 ∨ c = w3.heap.size := ho
    omega
  have B6 := Lib.hid (k6.toBelow B5.out (Nat.le_refl _) (fun c hc => hnO c (.inl hc)))
  have K26 := Lib.hid ((k6.block (w.heap.size + 2) (heap_lt K25.out) (hnO _ (.inr rfl))).trans K25.out)
  clear hnO k6 cp
  have LZ := Lib.hid (show ([.string ⟨#[]⟩, .slice none 0 0, .slice none 0 0, .slice none 0 0, .slice none 0 0, .slice none 0 0, .slice none 0 0, .slice none 0 0, .slice none 0 0] : List Value).length = 9 from rfl)
  have LR := HDL
  have OR := HDO
  go_wp2_with (first
    | ((with_reducible refine wp_storeOld (o := ⟨none, .store 35 (.tmp 4) (.tmp 13), _, _, _, _⟩) rfl (.tmp 4) (.tmp 13) 35 rfl 9 Tryz.sizeOf35 (w.heap.size + 2) [.string ⟨#[]⟩, .slice none 0 0, .slice none 0 0, .slice none 0 0, .slice none 0 0, .slice none 0 0, .slice none 0 0, .slice none 0 0, .slice none 0 0] LZ.out 35 K26.out ?_ vs' ?_ LR.out OR.out ?_); rfl; rfl))
  refine bodyPost_ret (v := .agg ⟨vs'⟩) ?_ rfl ?_
  · exact results_cell (i := 4) (b := w.heap.size + 2) Tryz.results22 Tryz.isAgg35 Tryz.sizeOf35 rfl HDL.out (setCells_heap vs' [] [.string ⟨#[]⟩, .slice none 0 0, .slice none 0 0, .slice none 0 0, .slice none 0 0, .slice none 0 0, .slice none 0 0, .slice none 0 0, .slice none 0 0] W6 _ K26.out HDL.out)
  · refine ⟨vs', rfl, AllAt.sub HDD.out (newN_to (by rw [setCells_size]; exact Nat.le_refl _) fun c _ h1 => setCells_other _ W6 _ 0 c fun e => h1 ⟨by omega, by have := S3; simp; omega⟩), ?_⟩
    have ho := setCells_os vs' W6 (w.heap.size + 2) 0
    exact ⟨ho.1.trans B6.out.os, ho.2.1.trans B6.out.tape, ho.2.2.trans B6.out.output, by rw [setCells_size]; exact B6.out.size, fun k hk => (setCells_other _ W6 _ 0 k (by omega)).trans (B6.out.block k hk)⟩
end Go.Proofs.YtciijpahjjoppaaGreat
end
section
namespace Go.Proofs.YtciijpahjjoppaaGreat
open Go.RowKit

theorem dig_piece (d : Nat) (h : d < 10) : (ByteArray.mk #[48, 49, 50, 51, 52, 53, 54, 55, 56, 57]).extract d (d + 1) = ⟨[UInt8.ofNat (48 + d)].toArray⟩ := by
  have : ∀ d : Fin 10, (ByteArray.mk #[48, 49, 50, 51, 52, 53, 54, 55, 56, 57]).extract d.1 (d.1 + 1) = ⟨[UInt8.ofNat (48 + d.1)].toArray⟩ := by decide
  exact this ⟨d, h⟩

theorem dd_len (u : Nat) : (Lib.decDigits u).length ≤ u + 1 := by
  induction u using Nat.strongRecOn with
  | ind u ih =>
    by_cases h : u < 10
    · rw [Lib.decDigits_one h]; simp
    · rw [Lib.decDigits, dif_neg h]
      have := ih (u / 10) (by omega)
      simp; omega

theorem dd_len2 (u : Nat) (h : 10 ≤ u) : (Lib.decDigits u).length + 5 ≤ u := by
  rw [Lib.decDigits, dif_neg (by omega)]
  have := dd_len (u / 10)
  simp; omega
set_option maxHeartbeats 400000 in
theorem long_any (m : Nat) : ∀ (a : Int) (w : World), 0 ≤ a → a ≤ (m : Int) + 9 → a ≤ 9223372036854775808 →
    Calls Tryz.prog 57 #[.int .u64 a] w fun e w' => e = .returned (.string ⟨(Lib.decDigits a.toNat).toArray⟩) ∧ ∃ k, w' = w.drewN k := by
  have small : ∀ (a : Int) (w : World), 0 ≤ a → a < 10 →
    Calls Tryz.prog 57 #[.int .u64 a] w fun e w' => e = .returned (.string ⟨(Lib.decDigits a.toNat).toArray⟩) ∧ ∃ k, w' = w.drewN k := by
    intro a w h0 hlt
    obtain ⟨n, rfl⟩ := Int.eq_ofNat_of_zero_le h0
    rw [Int.toNat_natCast, Lib.decDigits_one (by omega), ← dig_piece n (by omega)]
    go_enter Tryz.func57, Tryz.ntmps57
    go_wp2_with fail
    go_ret
    exact ⟨rfl, 0, rfl⟩
  induction m with
  | zero =>
    intro a w h0 hn hm
    exact small a w h0 (by omega)
  | succ m ih =>
    intro a w h0 hn hm
    by_cases hlt : a < 10
    · exact small a w h0 hlt
    · obtain ⟨n, rfl⟩ := Int.eq_ofNat_of_zero_le h0
      have e : Lib.decDigits ((n : Int)).toNat = Lib.decDigits (n / 10) ++ [UInt8.ofNat (48 + n % 10)] := by
        rw [Int.toNat_natCast, Lib.decDigits, dif_neg (by omega)]
      have E := Lib.hid e
      have IH := Lib.hid ih
      have S := Lib.hid small
      have h10 : ((n : Int) / 10).toNat = n / 10 := by omega
      have H10 := Lib.hid h10
      clear ih e small h10
      have r0 : IntKind.u64.wrap ((n : Int) / 10) = (n : Int) / 10 := IntWalk.u64_in _ (by omega)
      obtain ⟨d, hd⟩ : ∃ d : Nat, d = n % 10 := ⟨_, rfl⟩
      have r4 : (n : Int).tmod 10 = (d : Int) := by rw [Int.tmod_eq_emod_of_nonneg (by omega)]; omega
      rw [← hd] at E
      have r9 : d < 10 := by omega
      clear hd
      have hsl : ∀ w : World, (Instr.slice 9 (.string ⟨#[48, 49, 50, 51, 52, 53, 54, 55, 56, 57]⟩) (some (.int .u64 (d : Int))) (some (.int .u64 ((d : Int) + 1))) none).run Tryz.prog w = .ok (.string ⟨[UInt8.ofNat (48 + d)].toArray⟩) w := fun w => by
        rw [run_slice_string w 9 _ _ _ _ _ Tryz.underlying9 (by omega) (by omega) (show (d : Int) + 1 ≤ ((10 : Nat) : Int) by omega), show ((d : Int) + 1).toNat = d + 1 by omega, Int.toNat_natCast, dig_piece d r9]
      have hadd : ∀ w : World, (Op.stringOp .add ⟨(Lib.decDigits ((n : Int) / 10).toNat).toArray⟩ ⟨#[48 + UInt8.ofNat d]⟩).run Tryz.prog w = .ok (.string ⟨(Lib.decDigits ((n : Int)).toNat).toArray⟩) w := fun w => by
        have hl := dd_len ((n : Int) / 10).toNat
        have hsz : (ByteArray.mk (Lib.decDigits ((n : Int) / 10).toNat).toArray).size + (ByteArray.mk #[48 + UInt8.ofNat d]).size ≤ 9223372036854775807 := by
          show (Lib.decDigits ((n : Int) / 10).toNat).toArray.size + 1 ≤ _
          rw [List.size_toArray]
          omega
        rw [run_string_add_sum w _ _ hsz, E.out, H10.out, show UInt8.ofNat (48 + d) = 48 + UInt8.ofNat d from by simp]
        exact congrArg (fun b => Result.ok (Value.string b) w) (ByteArray.mk_append_mk _ [48 + UInt8.ofNat d])
      have r1 : IntKind.u64.wrap ((d : Int) + 1) = (d : Int) + 1 := IntWalk.u64_in _ (by omega)
      go_enter Tryz.func57, Tryz.ntmps57
      go_wp2_with fail
      go_quiet ((go_at_call 57; refine (IH.out _ _ (by omega) (by omega) (by omega)).mono ?_; rintro e w' ⟨rfl, k, rfl⟩; exact ⟨rfl, _, World.drewN_drewN ..⟩))
      go_wp2_with fail
      go_ret
      exact ⟨rfl, _, rfl⟩

set_option maxHeartbeats 400000 in
theorem refDigits_pos (n : Int) (w : World) (h0 : 0 ≤ n) (h1 : n ≤ 9223372036854775807) :
    Calls Tryz.prog 21 #[.int .i64 n] w fun e w' => e = .returned (.string ⟨(Lib.itoa n).toArray⟩) ∧ ∃ k, w' = w.drewN k := by
  have e : Lib.itoa n = Lib.decDigits n.toNat := by unfold Lib.itoa; rw [if_neg (by omega)]
  rw [e]
  clear e
  go_enter Tryz.func21, Tryz.ntmps21
  go_wp2_with fail
  refine (long_any n.toNat n _ h0 (by omega) (by omega)).mono ?_
  rintro e w' ⟨rfl, k, rfl⟩
  go_wp2_with fail
  go_ret
  exact ⟨rfl, _, rfl⟩

end Go.Proofs.YtciijpahjjoppaaGreat
end
