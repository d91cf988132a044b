/-
  A struct turned field by field in a box of one's own: what such a walk keeps; laws for it.
-/
import Derived.Test.YtciijpahjjoppaaGreatCls
import Derived.Laws.Cover3
namespace Go.Proofs.YtciijpahjjoppaaGreat
open Go.RowKit Go.Shelf Go.Deep

theorem eql_nil {t e : TypeId} (h : Tryz.prog.underlying t = some (.slice e)) (a : Option Addr) (l c : Nat) (w : World) : Sem.run Tryz.prog (binOp .eql t (.slice a l c) (.slice none 0 0)) w = .ok (.bool a.isNone) w := by
  have := run_equal_slice_nil (P := Tryz.prog) w t e a l c h
  unfold binOp
  simp [this]
theorem setCell_heap {w : World} {b : Nat} {cs : List Value} {T : TypeId} {fz : Nat × Nat} (h : w.heap[b]? = some (.cells ⟨cs⟩ T fz)) (i : Nat) (v : Value) : (w.setCell ⟨b, i, none⟩ v).heap[b]? = some (.cells ⟨cs.set i v⟩ T fz) := by
  unfold World.setCell
  simp only [Array.getElem?_modify]
  simp [h]
theorem setCell_other {w : World} {b k : Nat} (i : Nat) (v : Value) (hk : k ≠ b) : (w.setCell ⟨b, i, none⟩ v).heap[k]? = w.heap[k]? := by
  unfold World.setCell
  simp only [Array.getElem?_modify]
  rw [if_neg (fun e => hk e.symm)]
theorem setCell_size (w : World) (b i : Nat) (v : Value) : (w.setCell ⟨b, i, none⟩ v).heap.size = w.heap.size := by
  unfold World.setCell
  simp
theorem setCells_heap {T : TypeId} {fz : Nat × Nat} : ∀ (rest pre zs : List Value) (w : World) (b : Nat), w.heap[b]? = some (.cells ⟨pre ++ zs⟩ T fz) → rest.length = zs.length → (w.setCells b pre.length rest).heap[b]? = some (.cells ⟨pre ++ rest⟩ T fz)
  | [], pre, zs, w, b, h, hl => by
    obtain rfl : zs = [] := List.eq_nil_of_length_eq_zero hl.symm
    exact h
  | v :: r, pre, zs, w, b, h, hl => by
    match zs, hl with
    | z :: zs, hl =>
      have h1 := setCell_heap h pre.length v
      have e : (pre ++ z :: zs).set pre.length v = (pre ++ [v]) ++ zs := by simp
      rw [e] at h1
      have := setCells_heap r (pre ++ [v]) zs _ b h1 (by simpa using hl)
      rw [List.length_append, List.append_assoc] at this
      exact this
theorem setCells_other : ∀ (vs : List Value) (w : World) (b o k : Nat), k ≠ b → (w.setCells b o vs).heap[k]? = w.heap[k]?
  | [], _, _, _, _, _ => rfl
  | v :: r, _, b, o, k, h => (setCells_other r _ b (o + 1) k h).trans (setCell_other o v h)
theorem setCells_size : ∀ (vs : List Value) (w : World) (b o : Nat), (w.setCells b o vs).heap.size = w.heap.size
  | [], _, _, _ => rfl
  | v :: r, w, b, o => (setCells_size r _ b (o + 1)).trans (setCell_size w b o v)
theorem setCells_os : ∀ (vs : List Value) (w : World) (b o : Nat), (w.setCells b o vs).os = w.os ∧ (w.setCells b o vs).tape = w.tape ∧ (w.setCells b o vs).output = w.output
  | [], _, _, _ => ⟨rfl, rfl, rfl⟩
  | _ :: r, _, b, o => setCells_os r _ b (o + 1)
theorem run_storeOld {w : World} {T : TypeId} {k : Nat} (hsz : ∀ w, (sizeOf T).run Tryz.prog w = .ok k w) {vs zs : List Value} (hlen : vs.length = k) {b : Nat} {T' : TypeId} (hz : zs.length = k) (hb : w.heap[b]? = some (.cells ⟨zs⟩ T')) (h1 : ∀ v ∈ vs, v.oneCell' = true) :
    (Instr.storeAt T (.pointer (some ⟨b, 0, none⟩)) (.agg ⟨vs⟩)).run Tryz.prog w = .ok () (w.setCells b 0 vs) := by
  have h := run_storeCells_cells (P := Tryz.prog) b 0 vs 0 w (fun j hj => by
    rw [box_cells hb, Array.getElem?_eq_getElem (by simp; omega)]
    rfl) (fun j hj => by
    unfold World.frozen?
    simp [hb]) h1
  unfold Instr.storeAt storeVar
  simp [Instr.sureAddr, hsz, hlen, Value.cells, Sem.run_bind]
  rw [h]
theorem wp_storeOld {ops : Array Oper} {rest : List Oper} {o : Oper} {a : Act} {Q : Exit → Act → World → Prop} (hgd : o.guard = none) (x y : Operand) (T : TypeId) (ho : o.op = .store T x y) (k : Nat) (hsz : ∀ w, (sizeOf T).run Tryz.prog w = .ok k w)
    {w : World} (b : Nat) (zs : List Value) (hz : zs.length = k) (T' : TypeId) (hb : w.heap[b]? = some (.cells ⟨zs⟩ T')) (hx : a.eval x = .pointer (some ⟨b, 0, none⟩)) (vs : List Value) (hy : a.eval y = .agg ⟨vs⟩) (hlen : vs.length = k) (h1 : ∀ v ∈ vs, v.oneCell' = true)
    (hk : wpList Tryz.prog ops Q rest (a.put o.dst undef) (w.setCells b 0 vs)) : wpList Tryz.prog ops Q (o :: rest) a w := by
  refine wpList_plain hgd fun K hK => ?_
  unfold Oper.wp execOp
  simp only [ho, hx, hy]
  rw [Sem.run_bind, run_storeOld hsz hlen hz hb h1]
  exact hK _ _ hk
theorem results_cell {fn : Func} {tmps : Array Value} {w : World} {i : Nat} {T : TypeId} {k : Nat} (hres : fn.results = #[.cell i T]) (hag : ∀ w, (isAgg T).run Tryz.prog w = .ok true w) (hsz : ∀ w, (sizeOf T).run Tryz.prog w = .ok k w) {b : Nat} (ht : tmps.getD i undef = .pointer (some ⟨b, 0, none⟩)) {vs : List Value} {T' : TypeId} {fz : Nat × Nat} (hlen : vs.length = k) (hb : w.heap[b]? = some (.cells ⟨vs⟩ T' fz)) :
    (results fn tmps).run Tryz.prog w = .ok (.agg ⟨vs⟩) w := by
  have h := run_loadCells_list (P := Tryz.prog) (w := w) ⟨b, 0, none⟩ vs (fun j v hv => by
    rw [add_mid2, Nat.zero_add, box_cells hb]
    simpa using hv)
  rw [hlen] at h
  rw [Array.getD_eq_getD_getElem?] at ht
  unfold results
  simp [hres, ht, loadVar, asAddr, hag, hsz, h, Sem.run_bind]

section
variable {σ : Type} {g : Nat} {c1 c2 : Value}
structure BxJ (C : Clo σ g c1 c2) (k : Nat) (w : World) (st : σ) (T : TypeId) (cs : List Value) (W : World) : Prop where
  i : C.I k st W
  bt : W.heap[w.heap.size]? = some (.cells #[.func (.func g) #[] #[c1, c2]] 97)
  bx : W.heap[w.heap.size + 1]? = some (.cells ⟨cs⟩ T)
  br : ∃ zs : List Value, zs.length = cs.length ∧ W.heap[w.heap.size + 2]? = some (.cells ⟨zs⟩ T)
  n0 : ¬ C.O W w.heap.size
  n1 : ¬ C.O W (w.heap.size + 1)
  n2 : ¬ C.O W (w.heap.size + 2)
  kept : Kept C.O C.hi w W
  low : C.low ≤ w.heap.size
  sz : w.heap.size + 3 ≤ W.heap.size
theorem BxJ.start (C : Clo σ g c1 c2) {k : Nat} {w : World} {st : σ} {T : TypeId} {cs : Array Value} {zs : Array Value} (hz : zs.size = cs.size) (h : C.I k st w) :
    BxJ C k w st T cs.toList (((w.alloc (.cells #[.func (.func g) #[] #[c1, c2]] 97)).alloc (.cells cs T)).alloc (.cells zs T)) := by
  have hlow : C.low ≤ w.heap.size := Nat.le_trans (C.hiI h).1 (C.hiI h).2
  have b0 : Below w.heap.size w (((w.alloc (.cells #[.func (.func g) #[] #[c1, c2]] 97)).alloc (.cells cs T)).alloc (.cells zs T)) := (((Below.refl _ w).alloc (Nat.le_refl _) _).alloc (by simp) _).alloc (by simp; omega) _
  obtain ⟨k0, i0⟩ := C.below (Kept.refl C.O C.hi w) h hlow b0
  have no : ∀ b, w.heap.size ≤ b → ¬ C.O (((w.alloc (.cells #[.func (.func g) #[] #[c1, c2]] 97)).alloc (.cells cs T)).alloc (.cells zs T)) b := fun b hb e => by
    obtain ⟨_, h2⟩ := C.keep h b0.size (fun b hb => b0.block b (by omega)) (fun b hb => b0.block b (C.ltO h hb).2)
    have := (C.ltO h (h2 b e)).2
    omega
  have e2 := heap_new ((w.alloc (.cells #[.func (.func g) #[] #[c1, c2]] 97)).alloc (.cells cs T)) (.cells zs T)
  have a3 := (Below.refl ((w.alloc (.cells #[.func (.func g) #[] #[c1, c2]] 97)).alloc (.cells cs T)).heap.size ((w.alloc (.cells #[.func (.func g) #[] #[c1, c2]] 97)).alloc (.cells cs T))).alloc (Nat.le_refl _) (.cells zs T)
  refine ⟨i0, (a3.block _ (by simp; omega)).trans (box_first w _ _), (a3.block _ (by simp)).trans (box_second w _ _), ⟨zs.toList, by simpa using hz, ?_⟩, no _ (Nat.le_refl _), no _ (by omega), no _ (by omega), k0, hlow, by simp⟩
  simp only [World.size_alloc] at e2
  exact e2
theorem BxJ.called {C : Clo σ g c1 c2} {k k' : Nat} {w : World} {st st' : σ} {T : TypeId} {cs : List Value} {W W' : World} (h : BxJ C k w st T cs W) (hk : Kept C.O C.hi W W') (hi : C.I k' st' W') : BxJ C k' w st' T cs W' := by
  have hz := h.sz
  obtain ⟨zs, h1, h2⟩ := h.br
  exact ⟨hi, (hk.block _ (by omega) h.n0).trans h.bt, (hk.block _ (by omega) h.n1).trans h.bx, ⟨zs, h1, (hk.block _ (by omega) h.n2).trans h2⟩, hk.not_own (by omega) h.n0, hk.not_own (by omega) h.n1, hk.not_own (by omega) h.n2, h.kept.trans hk, h.low, Nat.le_trans hz hk.size⟩
theorem BxJ.below {C : Clo σ g c1 c2} {k : Nat} {w : World} {st : σ} {T : TypeId} {cs : List Value} {W W' : World} (h : BxJ C k w st T cs W) (hb : Below W.heap.size W W') : BxJ C k w st T cs W' := by
  obtain ⟨k1, i1⟩ := C.below (Kept.refl C.O C.hi W) h.i (Nat.le_trans h.low (by have := h.sz; omega)) hb
  exact h.called k1 i1
theorem BxJ.set {C : Clo σ g c1 c2} {k : Nat} {w : World} {st : σ} {T : TypeId} {cs : List Value} {W : World} (h : BxJ C k w st T cs W) (j : Nat) (v : Value) : BxJ C k w st T (cs.set j v) (W.setCell ⟨w.heap.size + 1, j, none⟩ v) := by
  have own : ∀ b, C.O W b → (W.setCell ⟨w.heap.size + 1, j, none⟩ v).heap[b]? = W.heap[b]? := fun b hb => setCell_other j v fun e => h.n1 (e ▸ hb)
  have old : ∀ b, b < w.heap.size → (W.setCell ⟨w.heap.size + 1, j, none⟩ v).heap[b]? = W.heap[b]? := fun b hb => setCell_other j v (by omega)
  have hsz := setCell_size W (w.heap.size + 1) j v
  obtain ⟨k1, k2⟩ := C.keep h.i (by omega) (fun b hb => old b (by have := h.low; omega)) own
  obtain ⟨zs, h1, h2⟩ := h.br
  exact ⟨k1, (setCell_other j v (by omega)).trans h.bt, setCell_heap h.bx j v, ⟨zs, by simpa using h1, (setCell_other j v (by omega)).trans h2⟩, fun e => h.n0 (k2 _ e), fun e => h.n1 (k2 _ e), fun e => h.n2 (k2 _ e), (C.next (w' := W.setCell ⟨w.heap.size + 1, j, none⟩ v) h.kept h.i h.low rfl rfl rfl (by omega) own old).1, h.low, by rw [hsz]; exact h.sz⟩
theorem BxJ.last {C : Clo σ g c1 c2} {k : Nat} {w : World} {st : σ} {T : TypeId} {cs : List Value} {W : World} (h : BxJ C k w st T cs W) : (W.setCells (w.heap.size + 2) 0 cs).heap[w.heap.size + 2]? = some (.cells ⟨cs⟩ T) ∧ C.I k st (W.setCells (w.heap.size + 2) 0 cs) ∧ Kept C.O C.hi w (W.setCells (w.heap.size + 2) 0 cs) := by
  obtain ⟨zs, h1, h2⟩ := h.br
  have own : ∀ b, C.O W b → (W.setCells (w.heap.size + 2) 0 cs).heap[b]? = W.heap[b]? := fun b hb => setCells_other cs W _ 0 b fun e => h.n2 (e ▸ hb)
  have old : ∀ b, b < w.heap.size → (W.setCells (w.heap.size + 2) 0 cs).heap[b]? = W.heap[b]? := fun b hb => setCells_other cs W _ 0 b (by omega)
  have hs := setCells_os cs W (w.heap.size + 2) 0
  obtain ⟨k1, k2⟩ := C.next h.kept h.i h.low hs.1 hs.2.1 hs.2.2 (by rw [setCells_size]; omega) own old
  exact ⟨setCells_heap cs [] zs W _ (by simpa using h2) h1.symm, k2, k1⟩
end
end Go.Proofs.YtciijpahjjoppaaGreat
