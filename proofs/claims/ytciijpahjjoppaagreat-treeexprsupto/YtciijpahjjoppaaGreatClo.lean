/-
  A function in a field that keeps memory of its own: what its calls leave, and what a caller may go on with.
-/
import Derived.Test.YtciijpahjjoppaaGreatItr
namespace Go.Proofs.YtciijpahjjoppaaGreat
open Go.RowKit Go.Shelf Go.Deep

/-- All blocks but those that are owned are as they were; what is owned behind is owned ahead, or new; from 'hi' on whatever is no cells is as it was. -/
structure Kept (O : World → Nat → Prop) (hi : Nat) (w w' : World) : Prop where
  os : w'.os = w.os
  tape : w'.tape = w.tape
  output : w'.output = w.output
  size : w.heap.size ≤ w'.heap.size
  block : ∀ b, b < w.heap.size → ¬ O w b → w'.heap[b]? = w.heap[b]?
  own : ∀ b, O w' b → O w b ∨ w.heap.size ≤ b
  others : ∀ (b : Nat) (o : Obj), hi ≤ b → w.heap[b]? = some o → o.isCells = false → w'.heap[b]? = some o
theorem Kept.refl (O : World → Nat → Prop) (hi : Nat) (w : World) : Kept O hi w w := ⟨rfl, rfl, rfl, Nat.le_refl _, fun _ _ _ => rfl, fun _ h => .inl h, fun _ _ _ h _ => h⟩
theorem Kept.trans {O : World → Nat → Prop} {hi : Nat} {a b c : World} (h : Kept O hi a b) (k : Kept O hi b c) : Kept O hi a c :=
  ⟨k.os.trans h.os, k.tape.trans h.tape, k.output.trans h.output, Nat.le_trans h.size k.size,
    fun i hi' ho => (k.block i (Nat.lt_of_lt_of_le hi' h.size) (fun e => by rcases h.own i e with e | e; exact ho e; omega)).trans (h.block i hi' ho),
    fun i e => by
      rcases k.own i e with e | e
      · exact h.own i e
      · exact .inr (Nat.le_trans h.size e),
    fun i o h1 h2 h3 => k.others i o h1 (h.others i o h1 h2 h3) h3⟩
theorem Kept.not_own {O : World → Nat → Prop} {hi : Nat} {w w' : World} (h : Kept O hi w w') {c : Nat} (hc : c < w.heap.size) (hn : ¬ O w c) : ¬ O w' c := fun e => by
  rcases h.own c e with e | e
  · exact hn e
  · omega

def lim : Nat := 8388608
structure Clo (σ : Type) (g : Nat) (c1 c2 : Value) where
  O : World → Nat → Prop
  low : Nat
  hi : Nat
  I : Nat → σ → World → Prop
  step : σ → ByteArray → σ
  out : σ → ByteArray → ByteArray
  ltO : ∀ {n s w b}, I n s w → O w b → low ≤ b ∧ b < w.heap.size
  cellsO : ∀ {n s w b}, I n s w → O w b → hi ≤ b → ∃ o : Obj, w.heap[b]? = some o ∧ o.isCells = true
  hiI : ∀ {n s w}, I n s w → low ≤ hi ∧ hi ≤ w.heap.size
  keep : ∀ {n s w w'}, I n s w → w.heap.size ≤ w'.heap.size → (∀ b, b < low → w'.heap[b]? = w.heap[b]?) → (∀ b, O w b → w'.heap[b]? = w.heap[b]?) → I n s w' ∧ ∀ b, O w' b → O w b
  down : ∀ {n s w}, I (n + 1) s w → I n s w
  outLe : ∀ {n s w x}, I (n + 1) s w → x.size ≤ lim → (out s x).size ≤ lim
  call : ∀ n s w x, I (n + 1) s w → x.size ≠ 0 → x.size ≤ lim → Calls Tryz.prog g #[.string x, c1, c2] w fun e w' => e = .returned (.string (out s x)) ∧ I n (step s x) w' ∧ Kept O hi w w'

section
variable {σ : Type} {g : Nat} {c1 c2 : Value} (C : Clo σ g c1 c2)
theorem Clo.downs {n m : Nat} {s : σ} {w : World} (h : C.I (n + m) s w) : C.I n s w := by
  induction m with
  | zero => exact h
  | succ m ih => exact ih (C.down h)
/-- A step that turns nothing that is owned, and nothing that lay. -/
theorem Clo.next {n : Nat} {s : σ} {w0 w w' : World} (hk : Kept C.O C.hi w0 w) (hI : C.I n s w) (h0 : C.low ≤ w0.heap.size) (hos : w'.os = w.os) (htape : w'.tape = w.tape) (hout : w'.output = w.output) (hsz : w.heap.size ≤ w'.heap.size)
    (hown : ∀ b, C.O w b → w'.heap[b]? = w.heap[b]?) (hold : ∀ b, b < w0.heap.size → w'.heap[b]? = w.heap[b]?) : Kept C.O C.hi w0 w' ∧ C.I n s w' := by
  obtain ⟨h1, h2⟩ := C.keep hI hsz (fun b hb => hold b (by omega)) hown
  refine ⟨⟨hos.trans hk.os, htape.trans hk.tape, hout.trans hk.output, Nat.le_trans hk.size hsz, fun b hb ho => (hold b hb).trans (hk.block b hb ho), fun b e => hk.own b (h2 b e), fun b o hb he hc => ?_⟩, h1⟩
  have hlt : b < w0.heap.size := heap_lt he
  rw [hold b hlt]
  exact hk.others b o hb he hc
theorem Clo.below {n : Nat} {s : σ} {w0 w w' : World} (hk : Kept C.O C.hi w0 w) (hI : C.I n s w) (h0 : C.low ≤ w0.heap.size) (hb : Below w.heap.size w w') : Kept C.O C.hi w0 w' ∧ C.I n s w' :=
  C.next hk hI h0 hb.os hb.tape hb.output hb.size (fun b h => hb.block b (C.ltO hI h).2) (fun b h => hb.block b (Nat.lt_of_lt_of_le h hk.size))
/-- A part, and what comes behind it. -/
def Clo.pt (s : σ) (x : ByteArray) : ByteArray × σ := if x.size = 0 then (x, s) else (C.out s x, C.step s x)
def Clo.pts : σ → List ByteArray → List ByteArray × σ
  | s, [] => ([], s)
  | s, x :: l => ((C.pt s x).1 :: (Clo.pts (C.pt s x).2 l).1, (Clo.pts (C.pt s x).2 l).2)
theorem Clo.pts_snoc (s : σ) (l : List ByteArray) (x : ByteArray) : C.pts s (l ++ [x]) = ((C.pts s l).1 ++ [(C.pt (C.pts s l).2 x).1], (C.pt (C.pts s l).2 x).2) := by
  induction l generalizing s with
  | nil => rfl
  | cons y l ih => simp [Clo.pts, ih]
theorem Clo.pts_len (s : σ) (l : List ByteArray) : (C.pts s l).1.length = l.length := by
  induction l generalizing s with
  | nil => rfl
  | cons y l ih => simp [Clo.pts, ih]
end
/-- What a name becomes. -/
def joinD (l : List ByteArray) : ByteArray := ⟨(Lib.join (l.map (·.data.toList)) [36]).toArray⟩
def Clo.nm {σ : Type} {g : Nat} {c1 c2 : Value} (C : Clo σ g c1 c2) (s : σ) (x : ByteArray) : ByteArray × σ := (joinD (C.pts s (parts x)).1, (C.pts s (parts x)).2)
theorem join_len (l : List (List UInt8)) (m : Nat) (h : ∀ x ∈ l, x.length ≤ m) : (Lib.join l [36]).length ≤ l.length * (m + 1) := by
  cases l with
  | nil => simp [Lib.join_nil]
  | cons x r =>
    rw [Lib.join_cons, List.length_append]
    have hx := h x (by simp)
    have ht : (Lib.joinTail [36] r).length ≤ r.length * (m + 1) := by
      have hr : ∀ y ∈ r, y.length ≤ m := fun y hy => h y (by simp [hy])
      clear h hx
      unfold Lib.joinTail
      induction r with
      | nil => simp
      | cons y r ih =>
        have h1 := hr y (by simp)
        have h2 := ih fun z hz => hr z (by simp [hz])
        simp only [List.map_cons, List.flatten_cons, List.length_append, List.length_cons, List.length_nil, Nat.add_mul] at h2 ⊢
        omega
    simp only [List.length_cons, Nat.add_mul] at ht ⊢
    omega
theorem Clo.pts_le {σ : Type} {g : Nat} {c1 c2 : Value} (C : Clo σ g c1 c2) {n : Nat} {s : σ} {x : ByteArray} {w : World} (hI : C.I (n + 1) s w) (hx : x.size ≤ lim) : (C.pt s x).1.size ≤ lim := by
  unfold Clo.pt
  split
  · exact hx
  · exact C.outLe hI hx
end Go.Proofs.YtciijpahjjoppaaGreat
