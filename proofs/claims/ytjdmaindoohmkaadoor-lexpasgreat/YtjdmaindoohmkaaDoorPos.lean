/-
  Places in a text, plainly: bytes, lines, columns; blocks that stay.
-/
import Derived.WalkKit
import Derived.Deep.Draws
namespace Go.Proofs.YtjdmaindoohmkaaDoor
open Go.RowKit

def bt (s : ByteArray) (k : Nat) : UInt8 := s.data.toList.getD k 0
theorem bt_eq (s : ByteArray) (k : Nat) (h : k < s.size) : s[k] = bt s k := by
  unfold bt
  rw [List.getD_eq_getElem?_getD, List.getElem?_eq_getElem (by simpa using h)]; rfl
def step (p : Nat × Nat) (c : UInt8) : Nat × Nat := if c.toNat = 10 then (p.1 + 1, 0) else (p.1, p.2 + 1)
def lc (l : List UInt8) : Nat × Nat := l.foldl step (0, 0)
def lineOf (s : ByteArray) (k : Nat) : Nat := (lc (s.data.toList.take k)).1
def colOf (s : ByteArray) (k : Nat) : Nat := (lc (s.data.toList.take k)).2
theorem lc_snoc (l : List UInt8) (c : UInt8) : lc (l ++ [c]) = step (lc l) c := by simp [lc]
theorem take_bt (s : ByteArray) (k : Nat) (h : k < s.size) : s.data.toList.take (k + 1) = s.data.toList.take k ++ [bt s k] := by
  rw [List.take_succ_eq_append_getElem (by simpa using h), ← bt_eq s k h]; rfl
theorem lc_bt (s : ByteArray) (k : Nat) (h : k < s.size) : lc (s.data.toList.take (k + 1)) = step (lc (s.data.toList.take k)) (bt s k) := by
  rw [take_bt s k h, lc_snoc]
theorem line_nl (s : ByteArray) (k : Nat) (h : k < s.size) (hc : (bt s k).toNat = 10) : lineOf s (k + 1) = lineOf s k + 1 := by
  unfold lineOf; rw [lc_bt s k h]; simp [step, hc]
theorem col_nl (s : ByteArray) (k : Nat) (h : k < s.size) (hc : (bt s k).toNat = 10) : colOf s (k + 1) = 0 := by
  unfold colOf; rw [lc_bt s k h]; simp [step, hc]
theorem line_no (s : ByteArray) (k : Nat) (h : k < s.size) (hc : (bt s k).toNat ≠ 10) : lineOf s (k + 1) = lineOf s k := by
  unfold lineOf; rw [lc_bt s k h]; simp [step, hc]
theorem col_no (s : ByteArray) (k : Nat) (h : k < s.size) (hc : (bt s k).toNat ≠ 10) : colOf s (k + 1) = colOf s k + 1 := by
  unfold colOf; rw [lc_bt s k h]; simp [step, hc]
theorem line_zero (s : ByteArray) : lineOf s 0 = 0 := by simp [lineOf, lc]
theorem col_zero (s : ByteArray) : colOf s 0 = 0 := by simp [colOf, lc]
theorem lc_bd (l : List UInt8) : (lc l).1 ≤ l.length ∧ (lc l).2 ≤ l.length := by
  have h : ∀ (l : List UInt8) (p : Nat × Nat), (l.foldl step p).1 ≤ p.1 + l.length ∧ (l.foldl step p).2 ≤ p.2 + l.length := by
    intro l
    induction l with
    | nil => intro p; simp
    | cons c r ih =>
      intro p
      have := ih (step p c)
      have hs : (step p c).1 ≤ p.1 + 1 ∧ (step p c).2 ≤ p.2 + 1 := by unfold step; split <;> simp
      simp only [List.foldl_cons, List.length_cons]
      omega
  have := h l (0, 0)
  simpa [lc] using this
theorem line_le (s : ByteArray) (k : Nat) : lineOf s k ≤ k := by
  have := (lc_bd (s.data.toList.take k)).1
  have hl : (s.data.toList.take k).length ≤ k := List.length_take_le _ _
  unfold lineOf; omega
theorem col_le (s : ByteArray) (k : Nat) : colOf s k ≤ k := by
  have := (lc_bd (s.data.toList.take k)).2
  have hl : (s.data.toList.take k).length ≤ k := List.length_take_le _ _
  unfold colOf; omega

/-- No block but b has turned (new ones may have come). -/
structure Only (b : Nat) (w w' : World) : Prop where
  os : w'.os = w.os
  tape : w'.tape = w.tape
  output : w'.output = w.output
  size : w.heap.size ≤ w'.heap.size
  block : ∀ k, k ≠ b → k < w.heap.size → w'.heap[k]? = w.heap[k]?
theorem Only.refl (b : Nat) (w : World) : Only b w w := ⟨rfl, rfl, rfl, Nat.le_refl _, fun _ _ _ => rfl⟩
theorem Only.trans {b : Nat} {a c d : World} (h : Only b a c) (k : Only b c d) : Only b a d :=
  ⟨k.os.trans h.os, k.tape.trans h.tape, k.output.trans h.output, Nat.le_trans h.size k.size, fun i hi hs => (k.block i hi (Nat.lt_of_lt_of_le hs h.size)).trans (h.block i hi hs)⟩
theorem Only.drewN {b : Nat} {a w : World} (h : Only b a w) (n : Nat) : Only b a (w.drewN n) := ⟨h.os, h.tape, h.output, h.size, h.block⟩
theorem Only.setCell {b : Nat} {a w : World} (h : Only b a w) {p : Addr} (hp : p.block = b) (u : Value) : Only b a (w.setCell p u) :=
  h.trans ⟨rfl, rfl, rfl, by simp [World.setCell], fun k hk _ => Below.heap_setCell _ _ _ _ (by omega)⟩
theorem Only.below {b B : Nat} {a w : World} (h : Only b a w) (hb : B ≤ b) (hB : B ≤ a.heap.size) : Below B a w :=
  ⟨h.os, h.tape, h.output, h.size, fun k hk => h.block k (by omega) (by omega)⟩
theorem Only.ofBelow {b B : Nat} {a w : World} (h : Below B a w) (hB : a.heap.size ≤ B) : Only b a w :=
  ⟨h.os, h.tape, h.output, h.size, fun k _ hs => h.block k (by omega)⟩
theorem heap_set {w : World} {b o : Nat} {c : Array Value} {t : TypeId} {f : Nat × Nat} (h : w.heap[b]? = some (.cells c t f)) (v : Value) :
    (w.setCell ⟨b, o, none⟩ v).heap[b]? = some (.cells (c.setIfInBounds o v) t f) := by
  simp [World.setCell, Array.getElem?_modify, h]
theorem heap_lt {w : World} {b : Nat} {o : Obj} (h : w.heap[b]? = some o) : b < w.heap.size := by
  rcases Nat.lt_or_ge b w.heap.size with g | g
  · exact g
  · rw [Array.getElem?_eq_none g] at h; cases h
theorem heap_new (w : World) (o : Obj) : (w.alloc o).heap[w.heap.size]? = some o := by
  show (w.heap.push o)[w.heap.size]? = _
  simp

/-- The block b is a cursor of s that stands at k. -/
structure CurAt (w : World) (b : Nat) (s : ByteArray) (k : Nat) : Prop where
  le : k ≤ s.size
  blk : w.heap[b]? = some (.cells #[.string s, .int .i64 (k : Nat), .int .i64 (lineOf s k : Nat), .int .i64 (colOf s k : Nat)] 79)
theorem CurAt.lt {w : World} {b : Nat} {s : ByteArray} {k : Nat} (h : CurAt w b s k) : b < w.heap.size := heap_lt h.blk
theorem CurAt.c0 {w : World} {b : Nat} {s : ByteArray} {k : Nat} (h : CurAt w b s k) : w.cell? ⟨b, 0, none⟩ = some (.string s) := by simp [World.cell?, h.blk]
theorem CurAt.c1 {w : World} {b : Nat} {s : ByteArray} {k : Nat} (h : CurAt w b s k) : w.cell? ⟨b, 1, none⟩ = some (.int .i64 (k : Nat)) := by simp [World.cell?, h.blk]
theorem CurAt.c2 {w : World} {b : Nat} {s : ByteArray} {k : Nat} (h : CurAt w b s k) : w.cell? ⟨b, 2, none⟩ = some (.int .i64 (lineOf s k : Nat)) := by simp [World.cell?, h.blk]
theorem CurAt.c3 {w : World} {b : Nat} {s : ByteArray} {k : Nat} (h : CurAt w b s k) : w.cell? ⟨b, 3, none⟩ = some (.int .i64 (colOf s k : Nat)) := by simp [World.cell?, h.blk]
theorem CurAt.fz {w : World} {b : Nat} {s : ByteArray} {k : Nat} (h : CurAt w b s k) (o : Nat) : w.frozen? ⟨b, o, none⟩ = false := by simp [World.frozen?, h.blk]
theorem CurAt.stays {w w' : World} {b : Nat} {s : ByteArray} {k : Nat} (h : CurAt w b s k) (e : w'.heap[b]? = w.heap[b]?) : CurAt w' b s k := ⟨h.le, e.trans h.blk⟩
theorem CurAt.drewN {w : World} {b : Nat} {s : ByteArray} {k : Nat} (h : CurAt w b s k) (n : Nat) : CurAt (w.drewN n) b s k := ⟨h.le, h.blk⟩
theorem CurAt.new (w : World) (s : ByteArray) : CurAt (w.alloc (.cells #[.string s, .int .i64 0, .int .i64 0, .int .i64 0] 79)) w.heap.size s 0 :=
  ⟨Nat.zero_le _, by rw [heap_new, line_zero, col_zero]; rfl⟩
end Go.Proofs.YtjdmaindoohmkaaDoor
