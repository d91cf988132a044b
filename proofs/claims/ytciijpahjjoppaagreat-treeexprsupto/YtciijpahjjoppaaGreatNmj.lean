/-
  A name turned part by part (turner.name): walked, whatever the function in the field.
-/
import Derived.Test.YtciijpahjjoppaaGreatClo
import Derived.Maps.OwnIn
import Derived.Maps.AppendAt
namespace Go.Proofs.YtciijpahjjoppaaGreat
open Go.RowKit Go.Shelf Go.Deep
attribute [local go_sem] Oper.semAt_some

section
variable {σ : Type} {g : Nat} {c1 c2 : Value}
structure NmJ (C : Clo σ g c1 c2) (k : Nat) (w : World) (ys : List ByteArray) (st : σ) (W : World) : Prop where
  i : C.I k st W
  bt : Boxed W w.heap.size 97 (.func (.func g) #[] #[c1, c2])
  row : ∃ v, Boxed W (w.heap.size + 1) 29 v ∧ W.ownsRow (w.heap.size + 1) 9 1 v ys.length (ys.map Value.string) ∧ (∀ b, v.ownBlock = some b → ¬ C.O W b)
  nt : ¬ C.O W w.heap.size
  nl : ¬ C.O W (w.heap.size + 1)
  kept : Kept C.O C.hi w W
  low : C.low ≤ w.heap.size
  his : C.hi ≤ w.heap.size
  sz : w.heap.size + 3 ≤ W.heap.size
  small : ∀ y ∈ ys, y.size ≤ lim
theorem rowBlock {w : World} {base e sz : Nat} {v : Value} {n : Nat} {xs : List Value} (h : w.ownsRow base e sz v n xs) {b : Nat} (hb : v.ownBlock = some b) : base ≤ b ∧ b < w.heap.size ∧ ∃ cs t fz, w.heap[b]? = some (.cells cs t fz) := by
  rcases h.2 with ⟨rfl, _⟩ | ⟨q, cap, cur, rfl, h1, h2, _⟩
  · simp [Value.ownBlock] at hb
  · obtain rfl : q = b := by simpa [Value.ownBlock] using hb
    exact ⟨h1, heap_lt h2, _, _, _, h2⟩
theorem ownsRow_same {w w' : World} {base e sz : Nat} {v : Value} {n : Nat} {xs : List Value} (h : w.ownsRow base e sz v n xs) (hb : ∀ b, v.ownBlock = some b → w'.heap[b]? = w.heap[b]?) : w'.ownsRow base e sz v n xs := by
  refine ⟨h.1, ?_⟩
  rcases h.2 with h4 | ⟨q, cap, cur, hv, hb', hg, r⟩
  · exact .inl h4
  · exact .inr ⟨q, cap, cur, hv, hb', (hb q (by rw [hv]; rfl)).trans hg, r⟩
/-- A step that turns none of these blocks. -/
theorem NmJ.same {C : Clo σ g c1 c2} {k : Nat} {w : World} {ys : List ByteArray} {st : σ} {W W' : World} (h : NmJ C k w ys st W) (hg : ∃ row, W.grownBy W' row ∧ ∀ r, row = some r → w.heap.size + 3 ≤ r ∧ ∃ o : Obj, W.heap[r]? = some o ∧ o.isCells = false) : NmJ C k w ys st W' := by
  obtain ⟨row, hg, hr⟩ := hg
  have cells : ∀ (b : Nat) (cs : Array Value) (t : TypeId) (fz : Nat × Nat), W.heap[b]? = some (.cells cs t fz) → W'.heap[b]? = W.heap[b]? := fun b cs t fz hb => hg.block b (heap_lt hb) fun e => by
    obtain ⟨_, o, ho, hc⟩ := hr b e.symm
    rw [hb] at ho
    cases ho
    cases hc
  have low : ∀ b, b < w.heap.size → W'.heap[b]? = W.heap[b]? := fun b hb => hg.block b (by have := h.sz; omega) fun e => by have := (hr b e.symm).1; omega
  have own : ∀ b, C.O W b → W'.heap[b]? = W.heap[b]? := fun b hb => by
    rcases Nat.lt_or_ge b C.hi with h1 | h1
    · exact low b (by have := h.his; omega)
    · obtain ⟨o, ho, hc⟩ := C.cellsO h.i hb h1
      cases o with
      | cells cs t fz => exact cells b cs t fz ho
      | _ => cases hc
  obtain ⟨k1, k2⟩ := C.keep h.i hg.size (fun b hb => low b (by have := h.low; omega)) own
  obtain ⟨v, h1, h2, h3⟩ := h.row
  exact ⟨k1, (cells _ _ _ _ h.bt).trans h.bt, ⟨v, (cells _ _ _ _ h1).trans h1, ownsRow_same h2 fun b hb => by obtain ⟨_, _, cs, t, fz, e⟩ := rowBlock h2 hb; exact cells b cs t fz e, fun b hb e => h3 b hb (k2 b e)⟩, fun e => h.nt (k2 _ e), fun e => h.nl (k2 _ e),
    (C.next h.kept h.i h.low hg.os hg.tape hg.output hg.size own (fun b hb => low b hb)).1, h.low, h.his, Nat.le_trans h.sz hg.size, h.small⟩
theorem NmJ.called {C : Clo σ g c1 c2} {k k' : Nat} {w : World} {ys : List ByteArray} {st st' : σ} {W W' : World} (h : NmJ C k w ys st W) (hk : Kept C.O C.hi W W') (hi : C.I k' st' W') : NmJ C k' w ys st' W' := by
  obtain ⟨v, h1, h2, h3⟩ := h.row
  have hz := h.sz
  exact ⟨hi, (hk.block _ (by omega) h.nt).trans h.bt, ⟨v, (hk.block _ (by omega) h.nl).trans h1, ownsRow_same h2 fun b hb => hk.block b (rowBlock h2 hb).2.1 (h3 b hb), fun b hb => hk.not_own (rowBlock h2 hb).2.1 (h3 b hb)⟩, hk.not_own (by omega) h.nt, hk.not_own (by omega) h.nl, h.kept.trans hk, h.low, h.his, Nat.le_trans hz hk.size, h.small⟩
theorem NmJ.down {C : Clo σ g c1 c2} {k : Nat} {w : World} {ys : List ByteArray} {st : σ} {W : World} (h : NmJ C (k + 1) w ys st W) : NmJ C k w ys st W :=
  ⟨C.down h.i, h.bt, h.row, h.nt, h.nl, h.kept, h.low, h.his, h.sz, h.small⟩
theorem NmJ.appended {C : Clo σ g c1 c2} {k : Nat} {w : World} {ys : List ByteArray} {st : σ} {W w1 : World} {v v' : Value} {y : ByteArray} {tmp : Obj} (h : NmJ C k w ys st W)
    (hno : ∀ b, v.ownBlock = some b → w.heap.size + 1 ≤ b ∧ ¬ C.O W b) (hy : y.size ≤ lim)
    (hg : (W.alloc tmp).grownBy w1 v.ownBlock) (hat : v'.ownBlock = v.ownBlock ∨ v'.ownBlock = some (W.alloc tmp).heap.size)
    (hb2 : Boxed (w1.setCell ⟨w.heap.size + 1, 0, none⟩ v') (w.heap.size + 1) 29 v') (hr2 : (w1.setCell ⟨w.heap.size + 1, 0, none⟩ v').ownsRow (w.heap.size + 1) 9 1 v' (ys ++ [y]).length ((ys ++ [y]).map Value.string)) :
    NmJ C k w (ys ++ [y]) st (w1.setCell ⟨w.heap.size + 1, 0, none⟩ v') := by
  have hz := h.sz
  have hlt := fun b (hb : C.O W b) => C.ltO h.i hb
  have hs := grownBy_setCell' w1 (w.heap.size + 1) v'
  have al : ∀ b, b < W.heap.size → (W.alloc tmp).heap[b]? = W.heap[b]? := fun b hb => ((Below.refl W.heap.size W).alloc (Nat.le_refl _) tmp).block b hb
  have blk : ∀ b, b < W.heap.size → some b ≠ v.ownBlock → b ≠ w.heap.size + 1 → (w1.setCell ⟨w.heap.size + 1, 0, none⟩ v').heap[b]? = W.heap[b]? := fun b h1 h2 h3 => by
    have h4 : b < (W.alloc tmp).heap.size := by simp; omega
    rw [hs.block b (Nat.lt_of_lt_of_le h4 hg.size) (fun e => h3 (by simpa using e)), hg.block b h4 h2, al b h1]
  have own : ∀ b, C.O W b → (w1.setCell ⟨w.heap.size + 1, 0, none⟩ v').heap[b]? = W.heap[b]? := fun b hb => blk b (hlt b hb).2 (fun e => (hno b e.symm).2 hb) (fun e => h.nl (e ▸ hb))
  have old : ∀ b, b < w.heap.size → (w1.setCell ⟨w.heap.size + 1, 0, none⟩ v').heap[b]? = W.heap[b]? := fun b hb => blk b (by omega) (fun e => by have := (hno b e.symm).1; omega) (by omega)
  have hsz : W.heap.size ≤ (w1.setCell ⟨w.heap.size + 1, 0, none⟩ v').heap.size := Nat.le_trans (Nat.le_trans (by simp) hg.size) hs.size
  obtain ⟨k1, k2⟩ := C.keep h.i hsz (fun b hb => old b (by have := h.low; omega)) own
  have al' := (Below.refl W.heap.size W).alloc (Nat.le_refl _) tmp
  refine ⟨k1, (blk _ (by omega) (fun e => by have := (hno _ e.symm).1; omega) (by omega)).trans h.bt, ⟨v', hb2, hr2, fun b hb e => ?_⟩, fun e => h.nt (k2 _ e), fun e => h.nl (k2 _ e),
    (C.next h.kept h.i h.low (hs.os.trans (hg.os.trans al'.os)) (hs.tape.trans (hg.tape.trans al'.tape)) (hs.output.trans (hg.output.trans al'.output)) hsz own old).1, h.low, h.his, Nat.le_trans hz hsz, fun z hz' => ?_⟩
  · have e' := k2 b e
    rcases hat with e1 | e1
    · exact (hno b (e1 ▸ hb)).2 e'
    · rw [e1] at hb
      have := (hlt b e').2
      simp at hb
      omega
  · rcases List.mem_append.1 hz' with h1 | h1
    · exact h.small z h1
    · rw [List.mem_singleton.1 h1]; exact hy
end
theorem partsF_any (s : ByteArray) (w : World) : Calls Tryz.prog 121 #[.string s] w fun e w' => e = .returned (.func (.func 140) #[] #[.pointer (some ⟨w.heap.size, 0, none⟩)]) ∧ w' = w.alloc (.cells #[.string s] 9) := by
  go_enter Tryz.func121, Tryz.ntmps121
  go_wp2_with fail
  go_ret
  exact ⟨rfl, rfl⟩
theorem info9 : (Tryz.prog.info? 9).map (fun i => (i.zero, i.size, i.bytes)) = some (some (.string ⟨#[]⟩), 1, 16) := by kernel_rfl
def NmI {σ : Type} {g : Nat} {c1 c2 : Value} (C : Clo σ g c1 c2) (n : Nat) (st : σ) (s : ByteArray) (w : World) (pre : List (Tx lim)) (W : World) : Prop :=
  pre.length ≤ (parts s).length ∧ NmJ C (n + ((parts s).length - pre.length)) w (C.pts st (pre.map fun x => x.1)).1 (C.pts st (pre.map fun x => x.1)).2 W
/-- What turner.name leaves. -/
def NmPost {σ : Type} {g : Nat} {c1 c2 : Value} (C : Clo σ g c1 c2) (n : Nat) (st : σ) (s : ByteArray) (w : World) (e : Ending) (w' : World) : Prop := e = .returned (.string (C.nm st s).1) ∧ C.I n (C.nm st s).2 w' ∧ Kept C.O C.hi w w'
end Go.Proofs.YtciijpahjjoppaaGreat
