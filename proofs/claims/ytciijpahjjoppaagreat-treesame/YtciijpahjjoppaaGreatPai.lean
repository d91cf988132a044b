/-
  Two structs loaded and laid into boxes in whatever order: one law.
-/
import Derived.Test.YtciijpahjjoppaaGreatRsb
import Derived.OrdersHeld
namespace Go.Proofs.YtciijpahjjoppaaGreat
open Go.RowKit Go.Deep Go.Sort

/-- Two boxes, both filled. -/
theorem twoBoxes (w : World) (T : TypeId) (z : Array Value) (p p' : Nat) (hp : (p = w.heap.size ∧ p' = w.heap.size + 1) ∨ (p = w.heap.size + 1 ∧ p' = w.heap.size)) (vs vs' : List Value) (h1 : vs.length = z.size) (h2 : vs'.length = z.size) :
    ((((w.alloc (.cells z T)).alloc (.cells z T)).setCells p 0 vs).setCells p' 0 vs').heap[p]? = some (.cells ⟨vs⟩ T) ∧ ((((w.alloc (.cells z T)).alloc (.cells z T)).setCells p 0 vs).setCells p' 0 vs').heap[p']? = some (.cells ⟨vs'⟩ T) ∧
    Below w.heap.size w ((((w.alloc (.cells z T)).alloc (.cells z T)).setCells p 0 vs).setCells p' 0 vs') ∧ ((w.alloc (.cells z T)).alloc (.cells z T)).heap[p]? = some (.cells z T) ∧ (((w.alloc (.cells z T)).alloc (.cells z T)).setCells p 0 vs).heap[p']? = some (.cells z T) := by
  have b := ((Below.refl w.heap.size w).alloc (Nat.le_refl _) (.cells z T)).alloc (by simp) (.cells z T)
  have k1 : ((w.alloc (.cells z T)).alloc (.cells z T)).heap[p]? = some (.cells z T) := by
    rcases hp with ⟨rfl, _⟩ | ⟨rfl, _⟩
    · exact box_first w _ _
    · exact box_second w _ _
  have k2 : ((w.alloc (.cells z T)).alloc (.cells z T)).heap[p']? = some (.cells z T) := by
    rcases hp with ⟨_, rfl⟩ | ⟨_, rfl⟩
    · exact box_second w _ _
    · exact box_first w _ _
  have hne : p' ≠ p := by omega
  have e1 := setCells_heap vs [] z.toList ((w.alloc (.cells z T)).alloc (.cells z T)) p k1 (by simpa using h1)
  have k3 : (((w.alloc (.cells z T)).alloc (.cells z T)).setCells p 0 vs).heap[p']? = some (.cells z T) := (setCells_other vs _ _ 0 _ hne).trans k2
  have e2 := setCells_heap vs' [] z.toList (((w.alloc (.cells z T)).alloc (.cells z T)).setCells p 0 vs) p' k3 (by simpa using h2)
  refine ⟨(setCells_other vs' _ _ 0 _ (Ne.symm hne)).trans e1, e2, ?_, k1, k3⟩
  have o1 := setCells_os vs ((w.alloc (.cells z T)).alloc (.cells z T)) p 0
  have o2 := setCells_os vs' (((w.alloc (.cells z T)).alloc (.cells z T)).setCells p 0 vs) p' 0
  refine ⟨(o2.1.trans o1.1).trans b.os, (o2.2.1.trans o1.2.1).trans b.tape, (o2.2.2.trans o1.2.2).trans b.output, ?_, fun k hk => ?_⟩
  · rw [setCells_size, setCells_size]; exact b.size
  · rw [setCells_other vs' _ _ 0 k (by omega), setCells_other vs _ _ 0 k (by omega)]; exact b.block k hk
theorem wpOp_value {ops : Array Oper} {Q : Exit → Act → World → Prop} {i : Nat} {K : Act → World → Prop} {a : Act} {w w' : World} {o : Oper} {v : Value} (ho : ops[i]? = some o) (hg : o.guard = none) (hr : (execOp a.eval o).run Tryz.prog w = .ok (.value v) w') (hk : K (a.put o.dst v) w') : wpOp Tryz.prog ops Q i K a w := by
  unfold wpOp
  rw [ho]
  simp only [Region.wanted, hg, if_true]
  refine .inl ?_
  unfold Oper.wp
  rw [hr]
  exact hk
theorem wpOp_skip {ops : Array Oper} {Q : Exit → Act → World → Prop} {i : Nat} {K : Act → World → Prop} {a : Act} {w w' : World} {o : Oper} (ho : ops[i]? = some o) (hg : o.guard = none) (hr : (execOp a.eval o).run Tryz.prog w = .ok .skip w') (hk : K (a.put o.dst undef) w') : wpOp Tryz.prog ops Q i K a w := by
  unfold wpOp
  rw [ho]
  simp only [Region.wanted, hg, if_true]
  refine .inl ?_
  unfold Oper.wp
  rw [hr]
  exact hk
theorem run_allocT {T : TypeId} {z : Array Value} (hz : ∀ w, (zeroValue T).run Tryz.prog w = .ok (.agg z) w) (o : Oper) (ho : o.op = .alloc T) (a : Act) (w : World) : (execOp a.eval o).run Tryz.prog w = .ok (.value (.pointer (some ⟨w.heap.size, 0, none⟩))) (w.alloc (.cells z T)) := by
  unfold execOp
  simp only [ho]
  simp [Instr.alloc, newVar, newRow, Value.cells, hz, go_sem]
structure PairOps (ops : Array Oper) (listed : Array Bool) (T : TypeId) (l0 l1 i8 i9 i10 i11 : Nat) (o8 o9 o10 o11 : Oper) : Prop where
  h8 : ops[i8]? = some o8
  h9 : ops[i9]? = some o9
  h10 : ops[i10]? = some o10
  h11 : ops[i11]? = some o11
  g8 : o8.guard = none
  g9 : o9.guard = none
  g10 : o10.guard = none
  g11 : o11.guard = none
  p8 : o8.op = .alloc T
  p9 : o9.op = .alloc T
  p10 : o10.op = .store T (.tmp 6) (.tmp l0)
  p11 : o11.op = .store T (.tmp 7) (.tmp l1)
  d8 : o8.dst = some 6
  d9 : o9.dst = some 7
  d10 : o10.dst = none
  d11 : o11.dst = none
  r0 : Region.ready .any ops listed = [i8, i9]
  r8 : Region.ready .any ops (listed.setIfInBounds i8 true) = [i9]
  r9 : Region.ready .any ops (listed.setIfInBounds i9 true) = [i8]
  r89 : Region.ready .any ops ((listed.setIfInBounds i8 true).setIfInBounds i9 true) = [i10]
  r98 : Region.ready .any ops ((listed.setIfInBounds i9 true).setIfInBounds i8 true) = [i10]
  r10 : Region.ready .any ops (((listed.setIfInBounds i8 true).setIfInBounds i9 true).setIfInBounds i10 true) = [i11]
  r10' : Region.ready .any ops (((listed.setIfInBounds i9 true).setIfInBounds i8 true).setIfInBounds i10 true) = [i11]
  r11 : Region.ready .any ops ((((listed.setIfInBounds i8 true).setIfInBounds i9 true).setIfInBounds i10 true).setIfInBounds i11 true) = []
  r11' : Region.ready .any ops ((((listed.setIfInBounds i9 true).setIfInBounds i8 true).setIfInBounds i10 true).setIfInBounds i11 true) = []
theorem put_comm (a : Act) (v v' : Value) : (a.put (some 7) v').put (some 6) v = (a.put (some 6) v).put (some 7) v' := by
  unfold Act.put
  simp only
  congr 1
  exact Array.setIfInBounds_comm _ _ (by decide)
theorem eval_put {a : Act} {d l : Nat} {v : Value} (h : l ≠ d) : (a.put (some d) v).eval (.tmp l) = a.eval (.tmp l) := by
  unfold Act.eval Act.put
  simp [Ne.symm h]
theorem eval_put_same {a : Act} {d : Nat} {v : Value} (h : d < a.tmps.size) : (a.put (some d) v).eval (.tmp d) = v := by
  unfold Act.eval Act.put
  simp [h]
theorem run_loadT {T : TypeId} {k : Nat} (hag : ∀ w, (isAgg T).run Tryz.prog w = .ok true w) (hsz : ∀ w, (sizeOf T).run Tryz.prog w = .ok k w) {o : Oper} {x : Operand} (ho : o.op = .load T x) {a : Act} {b off : Nat} (hx : a.eval x = .pointer (some ⟨b, off, none⟩)) {vs : List Value} (hlen : vs.length = k) {W : World} (hc : ∀ j v, vs[j]? = some v → W.cell? ⟨b, off + j, none⟩ = some v) : (execOp a.eval o).run Tryz.prog W = .ok (.value (.agg ⟨vs⟩)) W := by
  unfold execOp
  simp only [ho, hx]
  rw [Sem.run_bind, run_loadAgg hag hsz hlen (fun j v hv => by rw [add_mid2]; exact hc j v hv)]
  rfl
theorem run_storeT {T : TypeId} {k : Nat} (hsz : ∀ w, (sizeOf T).run Tryz.prog w = .ok k w) {z : Array Value} (hk : z.size = k) {vs : List Value} (hv : vs.length = k) (h1 : ∀ v ∈ vs, v.oneCell' = true) {o : Oper} {x y : Operand} (ho : o.op = .store T x y) {a : Act} {w : World} {p : Nat} (hx : a.eval x = .pointer (some ⟨p, 0, none⟩)) (hy : a.eval y = .agg ⟨vs⟩) (hp : w.heap[p]? = some (.cells z T)) : (execOp a.eval o).run Tryz.prog w = .ok .skip (w.setCells p 0 vs) := by
  have h := run_storeOld (w := w) (b := p) hsz hv (zs := z.toList) (by simpa using hk) (T' := T) hp h1
  unfold execOp
  simp only [ho, hx, hy]
  rw [Sem.run_bind, h]
  rfl
section
variable {ops : Array Oper} {Q : Exit → Act → World → Prop} {S : World → Prop} {listed : Array Bool} {A : Act} {w : World} {T : TypeId} {k : Nat} {z : Array Value} {l0 l1 i8 i9 i10 i11 : Nat} {o8 o9 o10 o11 : Oper} {vs vs' : List Value}
theorem pair_stores (L : Array Bool) (ho : PairOps ops listed T l0 l1 i8 i9 i10 i11 o8 o9 o10 o11) (hsz : ∀ w, (sizeOf T).run Tryz.prog w = .ok k w) (hk : z.size = k) (A6 : 6 < A.tmps.size) (A7 : 7 < A.tmps.size) (n0 : l0 ≠ 6 ∧ l0 ≠ 7) (n1 : l1 ≠ 6 ∧ l1 ≠ 7)
    (e0 : A.eval (.tmp l0) = .agg ⟨vs⟩) (e1 : A.eval (.tmp l1) = .agg ⟨vs'⟩) (hv : vs.length = k) (hv' : vs'.length = k) (h1 : ∀ v ∈ vs, v.oneCell' = true) (h1' : ∀ v ∈ vs', v.oneCell' = true) (hS : ∀ W, Below w.heap.size w W → S W)
    (r1 : Region.ready .any ops L = [i10]) (r2 : Region.ready .any ops (L.setIfInBounds i10 true) = [i11]) (r3 : Region.ready .any ops ((L.setIfInBounds i10 true).setIfInBounds i11 true) = [])
    (p p' : Nat) (hp : (p = w.heap.size ∧ p' = w.heap.size + 1) ∨ (p = w.heap.size + 1 ∧ p' = w.heap.size))
    (K : ∀ p p' wb, w.heap.size ≤ p → w.heap.size ≤ p' → wb.heap[p]? = some (.cells ⟨vs⟩ T) → wb.heap[p']? = some (.cells ⟨vs'⟩ T) → Below w.heap.size w wb → Q .normal ((A.put (some 6) (.pointer (some ⟨p, 0, none⟩))).put (some 7) (.pointer (some ⟨p', 0, none⟩))) wb) (fuel : Nat) :
    wpAnyH Tryz.prog .any ops Q S (fuel + 1 + 1) L ((A.put (some 6) (.pointer (some ⟨p, 0, none⟩))).put (some 7) (.pointer (some ⟨p', 0, none⟩))) ((w.alloc (.cells z T)).alloc (.cells z T)) := by
  obtain ⟨t1, t2, t3, t4, t5⟩ := twoBoxes w T z p p' hp vs vs' (hv.trans hk.symm) (hv'.trans hk.symm)
  have A7' : 7 < (A.put (some 6) (.pointer (some ⟨p, 0, none⟩))).tmps.size := by unfold Act.put; simpa using A7
  have s1 : Below w.heap.size w (((w.alloc (.cells z T)).alloc (.cells z T)).setCells p 0 vs) := by
    have b := ((Below.refl w.heap.size w).alloc (Nat.le_refl _) (.cells z T)).alloc (by simp) (.cells z T)
    have o1 := setCells_os vs ((w.alloc (.cells z T)).alloc (.cells z T)) p 0
    exact ⟨o1.1.trans b.os, o1.2.1.trans b.tape, o1.2.2.trans b.output, by rw [setCells_size]; exact b.size, fun c hc => (setCells_other vs _ _ 0 c (by omega)).trans (b.block c hc)⟩
  refine wpAnyH_all r1 (by simp) fun i hi => ?_
  obtain rfl := List.mem_singleton.1 hi
  refine wpOp_skip ho.h10 ho.g10 (run_storeT hsz hk hv h1 ho.p10 ?_ ?_ t4) ?_
  · rw [eval_put (by decide), eval_put_same A6]
  · rw [eval_put n0.2, eval_put n0.1, e0]
  · rw [ho.d10]
    refine ⟨hS _ s1, ?_⟩
    refine wpAnyH_all r2 (by simp) fun i hi => ?_
    obtain rfl := List.mem_singleton.1 hi
    refine wpOp_skip ho.h11 ho.g11 (run_storeT hsz hk hv' h1' ho.p11 ?_ ?_ t5) ?_
    · exact eval_put_same A7'
    · show ((A.put (some 6) _).put (some 7) _).eval (.tmp l1) = _
      rw [eval_put n1.2, eval_put n1.1, e1]
    · rw [ho.d11]
      exact ⟨hS _ t3, wpAnyH_done r3 (K p p' _ (by omega) (by omega) t1 t2 t3) _⟩
/-- The law. -/
theorem pair_tail (ho : PairOps ops listed T l0 l1 i8 i9 i10 i11 o8 o9 o10 o11) (hz : ∀ w, (zeroValue T).run Tryz.prog w = .ok (.agg z) w) (hsz : ∀ w, (sizeOf T).run Tryz.prog w = .ok k w) (hk : z.size = k) (A6 : 6 < A.tmps.size) (A7 : 7 < A.tmps.size) (n0 : l0 ≠ 6 ∧ l0 ≠ 7) (n1 : l1 ≠ 6 ∧ l1 ≠ 7)
    (e0 : A.eval (.tmp l0) = .agg ⟨vs⟩) (e1 : A.eval (.tmp l1) = .agg ⟨vs'⟩) (hv : vs.length = k) (hv' : vs'.length = k) (h1 : ∀ v ∈ vs, v.oneCell' = true) (h1' : ∀ v ∈ vs', v.oneCell' = true) (hS : ∀ W, Below w.heap.size w W → S W)
    (K : ∀ p p' wb, w.heap.size ≤ p → w.heap.size ≤ p' → wb.heap[p]? = some (.cells ⟨vs⟩ T) → wb.heap[p']? = some (.cells ⟨vs'⟩ T) → Below w.heap.size w wb → Q .normal ((A.put (some 6) (.pointer (some ⟨p, 0, none⟩))).put (some 7) (.pointer (some ⟨p', 0, none⟩))) wb) (fuel : Nat) :
    wpAnyH Tryz.prog .any ops Q S (fuel + 1 + 1 + 1 + 1) listed A w := by
  have b1 := (Below.refl w.heap.size w).alloc (Nat.le_refl _) (.cells z T)
  have b2 := b1.alloc (by simp) (.cells z T)
  refine wpAnyH_all ho.r0 (by simp) fun i hi => ?_
  rcases List.mem_cons.1 hi with rfl | hi
  · refine wpOp_value ho.h8 ho.g8 (run_allocT hz o8 ho.p8 _ _) ?_
    rw [ho.d8]
    refine ⟨hS _ b1, wpAnyH_all ho.r8 (by simp) fun i hi => ?_⟩
    obtain rfl := List.mem_singleton.1 hi
    refine wpOp_value ho.h9 ho.g9 (run_allocT hz o9 ho.p9 _ _) ?_
    rw [ho.d9, World.size_alloc]
    exact ⟨hS _ b2, pair_stores _ ho hsz hk A6 A7 n0 n1 e0 e1 hv hv' h1 h1' hS ho.r89 ho.r10 ho.r11 _ _ (.inl ⟨rfl, rfl⟩) K fuel⟩
  · obtain rfl := List.mem_singleton.1 hi
    refine wpOp_value ho.h9 ho.g9 (run_allocT hz o9 ho.p9 _ _) ?_
    rw [ho.d9]
    refine ⟨hS _ b1, wpAnyH_all ho.r9 (by simp) fun i hi => ?_⟩
    obtain rfl := List.mem_singleton.1 hi
    refine wpOp_value ho.h8 ho.g8 (run_allocT hz o8 ho.p8 _ _) ?_
    rw [ho.d8, World.size_alloc, put_comm]
    exact ⟨hS _ b2, pair_stores _ ho hsz hk A6 A7 n0 n1 e0 e1 hv hv' h1 h1' hS ho.r98 ho.r10' ho.r11' _ _ (.inr ⟨rfl, rfl⟩) K fuel⟩
end
end Go.Proofs.YtciijpahjjoppaaGreat
