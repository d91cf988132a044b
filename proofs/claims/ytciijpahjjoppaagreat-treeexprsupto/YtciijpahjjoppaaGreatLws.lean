/-
  Laws: a struct loaded whole, a struct stored into a block just made, whatever its cells.
-/
import Derived.Test.YtciijpahjjoppaaGreatOpx
import Derived.Laws.IdiomCopy
import Derived.Laws.Cells
import Derived.Laws.Alloc2
import Derived.Shelf.SlicesQ.Load
namespace Go.Proofs.YtciijpahjjoppaaGreat
open Go.RowKit Go.Deep

theorem box_cells {w : World} {n : Nat} {cs : Array Value} {t : TypeId} {fz : Nat × Nat} (h : w.heap[n]? = some (.cells cs t fz)) : ∀ i, w.cell? ⟨n, i, none⟩ = cs[i]? := fun i => by
  unfold World.cell?
  simp [h]
theorem setCells_new (w : World) (T : TypeId) : ∀ (rest pre zs : List Value), rest.length = zs.length → (w.alloc (.cells ⟨pre ++ zs⟩ T)).setCells w.heap.size pre.length rest = w.alloc (.cells ⟨pre ++ rest⟩ T)
  | [], pre, zs, h => by
    obtain rfl : zs = [] := List.eq_nil_of_length_eq_zero h.symm
    rfl
  | v :: r, pre, zs, h => by
    match zs, h with
    | z :: zs, h =>
      have := setCells_new w T r (pre ++ [v]) zs (by simpa using h)
      rw [List.length_append, List.append_assoc, List.append_assoc] at this
      show ((w.alloc (.cells ⟨pre ++ z :: zs⟩ T)).setCell ⟨w.heap.size, pre.length, none⟩ v).setCells w.heap.size (pre.length + 1) r = _
      rw [World.setCell_alloc_new]
      have e : (⟨pre ++ z :: zs⟩ : Array Value).setIfInBounds pre.length v = ⟨pre ++ ([v] ++ zs)⟩ := by
        apply Array.ext'
        simp
      rw [e]
      exact this
theorem run_loadAgg {w : World} {T : TypeId} {k : Nat} (hag : ∀ w, (isAgg T).run Tryz.prog w = .ok true w) (hsz : ∀ w, (sizeOf T).run Tryz.prog w = .ok k w) {ad : Addr} {vs : List Value} (hlen : vs.length = k) (hc : ∀ j v, vs[j]? = some v → w.cell? (ad.add j) = some v) :
    (Instr.loadAt T (.pointer (some ad))).run Tryz.prog w = .ok (.agg ⟨vs⟩) w := by
  have h := run_loadCells_list (P := Tryz.prog) (w := w) ad vs hc
  rw [hlen] at h
  unfold Instr.loadAt loadVar
  simp [Instr.sureAddr, hag, hsz, h, Sem.run_bind]
theorem run_storeNew {w : World} {T : TypeId} {k : Nat} (hsz : ∀ w, (sizeOf T).run Tryz.prog w = .ok k w) {vs : List Value} (hlen : vs.length = k) (zs : Array Value) (hz : zs.size = k) (h1 : ∀ v ∈ vs, v.oneCell' = true) :
    (Instr.storeAt T (.pointer (some ⟨w.heap.size, 0, none⟩)) (.agg ⟨vs⟩)).run Tryz.prog (w.alloc (.cells zs T)) = .ok () (w.alloc (.cells ⟨vs⟩ T)) := by
  have h := run_storeCells_cells (P := Tryz.prog) w.heap.size 0 vs 0 (w.alloc (.cells zs T)) (fun j hj => by
    rw [box_cells (heap_new w (.cells zs T)), Array.getElem?_eq_getElem (by omega)]
    rfl) (fun j hj => World.frozen?_alloc_new w zs T _) h1
  have e := setCells_new w T vs [] zs.toList (by simpa [hz] using hlen)
  unfold Instr.storeAt storeVar
  simp [Instr.sureAddr, hsz, hlen, Value.cells, Sem.run_bind]
  rw [h]
  simpa using e
theorem add_mid2 (b o j : Nat) : (⟨b, o, none⟩ : Addr).add j = ⟨b, o + j, none⟩ := by unfold Addr.add; split <;> simp_all
theorem wp_loadAgg {ops : Array Oper} {rest : List Oper} {o : Oper} {a : Act} {Q : Exit → Act → World → Prop} (hgd : o.guard = none) (x : Operand) (T : TypeId) (ho : o.op = .load T x) (k : Nat) (hag : ∀ w, (isAgg T).run Tryz.prog w = .ok true w) (hsz : ∀ w, (sizeOf T).run Tryz.prog w = .ok k w)
    {w : World} (b off : Nat) (hx : a.eval x = .pointer (some ⟨b, off, none⟩)) (vs : List Value) (hlen : vs.length = k) (hc : ∀ j v, vs[j]? = some v → w.cell? ⟨b, off + j, none⟩ = some v)
    (hk : wpList Tryz.prog ops Q rest (a.put o.dst (.agg ⟨vs⟩)) w) : wpList Tryz.prog ops Q (o :: rest) a w := by
  refine wpList_plain hgd fun K hK => ?_
  unfold Oper.wp execOp
  simp only [ho, hx]
  rw [Sem.run_bind, run_loadAgg hag hsz hlen (fun j v hv => by rw [add_mid2]; exact hc j v hv)]
  exact hK _ _ hk
theorem wp_storeNew {ops : Array Oper} {rest : List Oper} {o : Oper} {a : Act} {Q : Exit → Act → World → Prop} (hgd : o.guard = none) (x y : Operand) (T : TypeId) (ho : o.op = .store T x y) (k : Nat) (hsz : ∀ w, (sizeOf T).run Tryz.prog w = .ok k w)
    {w : World} (zs : Array Value) (hz : zs.size = k) (hx : a.eval x = .pointer (some ⟨w.heap.size, 0, none⟩)) (vs : List Value) (hy : a.eval y = .agg ⟨vs⟩) (hlen : vs.length = k) (h1 : ∀ v ∈ vs, v.oneCell' = true)
    (hk : wpList Tryz.prog ops Q rest (a.put o.dst undef) (w.alloc (.cells ⟨vs⟩ T))) : wpList Tryz.prog ops Q (o :: rest) a (w.alloc (.cells zs T)) := by
  refine wpList_plain hgd fun K hK => ?_
  unfold Oper.wp execOp
  simp only [ho, hx, hy]
  rw [Sem.run_bind, run_storeNew hsz hlen zs hz h1]
  exact hK _ _ hk
theorem At.one {w : World} {v : Value} {d : D} (h : At w v d) : v.oneCell' = true := by
  cases h <;> rfl
theorem AllAt.one {w : World} : ∀ {vs : List Value} {ds : List D}, AllAt w vs ds → ∀ v ∈ vs, v.oneCell' = true
  | [], [], _, v, hv => by simp at hv
  | v :: vs, d :: ds, h, u, hu => by
    rcases List.mem_cons.1 hu with rfl | hu
    · exact h.1.one
    · exact AllAt.one h.2 u hu
  | [], _ :: _, h, _, _ => h.elim
  | _ :: _, [], h, _, _ => h.elim
end Go.Proofs.YtciijpahjjoppaaGreat
