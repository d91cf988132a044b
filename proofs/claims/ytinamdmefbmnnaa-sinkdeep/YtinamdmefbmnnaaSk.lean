/-
  A sink in memory: what it holds, which blocks are its own, what a call of it may turn.
-/
import Derived.Test.YtinamdmefbmnnaaRows
import Derived.WalkKit
import Derived.WalkSpells
import Derived.WalkLawsBesides
import Derived.BigQuiet
import Derived.Deep.QuietTactic
import Derived.Deep.Draws
import Derived.Lib.Strings
import Derived.Lib.Hide
import Derived.Lib.OthersKept
import Derived.Lib.AppendStr
import Derived.Laws.BytesArg
import Derived.OwnWalk
import Derived.IntWalk
namespace Go.Proofs.Ytinamdmefbmnnaa
open Go.RowKit

theorem heap_lt {w : World} {b : Nat} {o : Obj} (h : w.heap[b]? = some o) : b < w.heap.size := by
  rcases Nat.lt_or_ge b w.heap.size with g | g
  · exact g
  · rw [Array.getElem?_eq_none g] at h; cases h
theorem heap_new (w : World) (o : Obj) : (w.alloc o).heap[w.heap.size]? = some o := by
  show (w.heap.push o)[w.heap.size]? = _
  simp
theorem heap_old (w : World) (o : Obj) (k : Nat) (h : k < w.heap.size) : (w.alloc o).heap[k]? = w.heap[k]? := by
  show (w.heap.push o)[k]? = _
  rw [Array.getElem?_push_lt h, Array.getElem?_eq_getElem h]
theorem heap_set {w : World} {b o : Nat} {c : Array Value} {t : TypeId} {f : Nat × Nat} (h : w.heap[b]? = some (.cells c t f)) (v : Value) :
    (w.setCell ⟨b, o, none⟩ v).heap[b]? = some (.cells (c.setIfInBounds o v) t f) := by
  simp [World.setCell, Array.getElem?_modify, h]

/-- k is a block of the sink at q: its own, or its text's. -/
def Mine (w : World) (q k : Nat) : Prop := k = q ∨ ∃ v r d f, w.heap[q]? = some (.cells #[v, r, d, f] 46) ∧ v.ownBlock = some k
theorem Mine.congr {w w' : World} {q k : Nat} (e : w'.heap[q]? = w.heap[q]?) : Mine w' q k ↔ Mine w q k := by unfold Mine; rw [e]
/-- Of what was there only the sink at q has turned. -/
structure Did (q : Nat) (w w' : World) : Prop where
  os : w'.os = w.os
  tape : w'.tape = w.tape
  output : w'.output = w.output
  size : w.heap.size ≤ w'.heap.size
  block : ∀ k, k < w.heap.size → ¬ Mine w q k → w'.heap[k]? = w.heap[k]?
  mine : ∀ k, Mine w' q k → Mine w q k ∨ w.heap.size ≤ k
theorem Did.refl (q : Nat) (w : World) : Did q w w := ⟨rfl, rfl, rfl, Nat.le_refl _, fun _ _ _ => rfl, fun _ h => .inl h⟩
theorem Did.trans {q : Nat} {a b c : World} (h : Did q a b) (k : Did q b c) : Did q a c :=
  ⟨k.os.trans h.os, k.tape.trans h.tape, k.output.trans h.output, Nat.le_trans h.size k.size,
    fun i hi hn => (k.block i (Nat.lt_of_lt_of_le hi h.size) (fun m => (h.mine i m).elim hn (fun x => by omega))).trans (h.block i hi hn),
    fun i hm => (k.mine i hm).elim (h.mine i) (fun x => .inr (Nat.le_trans h.size x))⟩
theorem Did.below {q : Nat} {a b : World} (hq : q < a.heap.size) (h : Below a.heap.size a b) : Did q a b :=
  ⟨h.os, h.tape, h.output, h.size, fun k hk _ => h.block k hk, fun _ hm => .inl ((Mine.congr (h.block q hq)).1 hm)⟩
theorem Did.drewN {q : Nat} {a b : World} (h : Did q a b) (n : Nat) : Did q a (b.drewN n) := ⟨h.os, h.tape, h.output, h.size, h.block, h.mine⟩
/-- All that is the sink's lies from B on: so below B nothing has turned. -/
theorem Did.toBelow {q B : Nat} {a b : World} (h : Did q a b) (hB : ∀ k, Mine a q k → B ≤ k) (hs : B ≤ a.heap.size) : Below B a b :=
  ⟨h.os, h.tape, h.output, h.size, fun k hk => h.block k (by omega) (fun m => by have := hB k m; omega)⟩
theorem Did.above {q B : Nat} {a b : World} (h : Did q a b) (hB : ∀ k, Mine a q k → B ≤ k) (hs : B ≤ a.heap.size) : ∀ k, Mine b q k → B ≤ k :=
  fun k m => (h.mine k m).elim (hB k) (fun x => by omega)

/-- The block q is a sink that holds acc. -/
structure SinkAt (w : World) (q : Nat) (acc : List UInt8) (room deep : Nat) (full : Bool) : Prop where
  ex : ∃ v, w.heap[q]? = some (.cells #[v, .int .i64 (room : Nat), .int .i64 (deep : Nat), .bool full] 46) ∧ w.ownsRow 0 5 1 v acc.length (Lib.byteCells acc) ∧ v.ownBlock ≠ some q
theorem mine_of {w : World} {q : Nat} {v r d f : Value} (h : w.heap[q]? = some (.cells #[v, r, d, f] 46)) (k : Nat) : Mine w q k ↔ k = q ∨ v.ownBlock = some k := by
  constructor
  · rintro (h1 | ⟨v', r', d', f', h1, h2⟩)
    · exact .inl h1
    · rw [h] at h1
      simp at h1
      rw [h1.1]; exact .inr h2
  · rintro (h1 | h1)
    · exact .inl h1
    · exact .inr ⟨v, r, d, f, h, h1⟩
theorem own_lt {w : World} {v : Value} {n : Nat} {xs : List Value} (h : w.ownsRow 0 5 1 v n xs) (k : Nat) (hk : v.ownBlock = some k) : k < w.heap.size := (h.lt k hk).2
theorem SinkAt.lt {w : World} {q : Nat} {acc : List UInt8} {room deep : Nat} {full : Bool} (h : SinkAt w q acc room deep full) : q < w.heap.size := by
  obtain ⟨v, h1, _⟩ := h.ex
  exact heap_lt h1
theorem SinkAt.mine_lt {w : World} {q : Nat} {acc : List UInt8} {room deep : Nat} {full : Bool} (h : SinkAt w q acc room deep full) (k : Nat) (hk : Mine w q k) : k < w.heap.size := by
  obtain ⟨v, h1, h2, _⟩ := h.ex
  rcases (mine_of h1 k).1 hk with rfl | h3
  · exact heap_lt h1
  · exact own_lt h2 k h3
theorem SinkAt.new (w : World) (room : Nat) : SinkAt (w.alloc (.cells #[.slice none 0 0, .int .i64 (room : Nat), .int .i64 0, .bool false] 46)) w.heap.size [] room 0 false :=
  ⟨_, heap_new _ _, World.ownsRow_nil _ _ _ _, by simp [Value.ownBlock]⟩
theorem mine_new (w : World) (r d f : Value) (k : Nat) : Mine (w.alloc (.cells #[.slice none 0 0, r, d, f] 46)) w.heap.size k ↔ k = w.heap.size := by
  rw [mine_of (heap_new _ _)]
  simp [Value.ownBlock]
/-- What is no block of the sink's may turn. -/
theorem SinkAt.kept {w w' : World} {q : Nat} {acc : List UInt8} {room deep : Nat} {full : Bool} (h : SinkAt w q acc room deep full) (hb : ∀ k, Mine w q k → w'.heap[k]? = w.heap[k]?) : SinkAt w' q acc room deep full := by
  obtain ⟨v, h1, h2, h3⟩ := h.ex
  refine ⟨v, (hb q (.inl rfl)).trans h1, ?_, h3⟩
  refine ⟨h2.1, ?_⟩
  rcases h2.2 with h4 | ⟨g, cap, cur, hv, hb', hg, r⟩
  · exact .inl h4
  · refine .inr ⟨g, cap, cur, hv, hb', (hb g ?_).trans hg, r⟩
    exact (mine_of h1 g).2 (.inr (by rw [hv]; rfl))
theorem SinkAt.below {w w' : World} {q : Nat} {acc : List UInt8} {room deep : Nat} {full : Bool} (h : SinkAt w q acc room deep full) (hb : Below w.heap.size w w') : SinkAt w' q acc room deep full :=
  h.kept fun k hk => hb.block k (h.mine_lt k hk)
theorem SinkAt.drewN {w : World} {q : Nat} {acc : List UInt8} {room deep : Nat} {full : Bool} (h : SinkAt w q acc room deep full) (n : Nat) : SinkAt (w.drewN n) q acc room deep full := h.kept fun _ _ => rfl
theorem SinkAt.c1 {w : World} {q : Nat} {acc : List UInt8} {room deep : Nat} {full : Bool} (h : SinkAt w q acc room deep full) : w.cell? ⟨q, 1, none⟩ = some (.int .i64 (room : Nat)) := by
  obtain ⟨v, h1, _⟩ := h.ex
  simp [World.cell?, h1]
theorem SinkAt.c2 {w : World} {q : Nat} {acc : List UInt8} {room deep : Nat} {full : Bool} (h : SinkAt w q acc room deep full) : w.cell? ⟨q, 2, none⟩ = some (.int .i64 (deep : Nat)) := by
  obtain ⟨v, h1, _⟩ := h.ex
  simp [World.cell?, h1]
theorem SinkAt.c3 {w : World} {q : Nat} {acc : List UInt8} {room deep : Nat} {full : Bool} (h : SinkAt w q acc room deep full) : w.cell? ⟨q, 3, none⟩ = some (.bool full) := by
  obtain ⟨v, h1, _⟩ := h.ex
  simp [World.cell?, h1]
theorem SinkAt.fz {w : World} {q : Nat} {acc : List UInt8} {room deep : Nat} {full : Bool} (h : SinkAt w q acc room deep full) (o : Nat) : w.frozen? ⟨q, o, none⟩ = false := by
  obtain ⟨v, h1, _⟩ := h.ex
  simp [World.frozen?, h1]
/-- A cell of the sink's own block, behind the text, is set. -/
theorem did_set {w : World} {q : Nat} {acc : List UInt8} {room deep : Nat} {full : Bool} (h : SinkAt w q acc room deep full) (o : Nat) (ho : 0 < o) (u : Value) : Did q w (w.setCell ⟨q, o, none⟩ u) := by
  obtain ⟨v, h1, h2, h3⟩ := h.ex
  refine ⟨rfl, rfl, rfl, by simp [World.setCell], fun k _ hk => Below.heap_setCell _ _ _ _ (fun e => hk (.inl e)), fun k hm => .inl ?_⟩
  have h4 := heap_set (o := o) h1 u
  rw [mine_of h1]
  match o, ho with
  | 1, _ => exact (mine_of (by simpa using h4) k).1 hm
  | 2, _ => exact (mine_of (by simpa using h4) k).1 hm
  | 3, _ => exact (mine_of (by simpa using h4) k).1 hm
  | n + 4, _ =>
    have : (#[v, .int .i64 (room : Nat), .int .i64 (deep : Nat), .bool full] : Array Value).setIfInBounds (n + 4) u = #[v, .int .i64 (room : Nat), .int .i64 (deep : Nat), .bool full] := by
      apply Array.ext'
      simp
    rw [this] at h4
    exact (mine_of h4 k).1 hm
theorem own_set {w : World} {q : Nat} {v : Value} {n : Nat} {xs : List Value} (h : w.ownsRow 0 5 1 v n xs) (hq : v.ownBlock ≠ some q) (o : Nat) (u : Value) : (w.setCell ⟨q, o, none⟩ u).ownsRow 0 5 1 v n xs := by
  refine ⟨h.1, ?_⟩
  rcases h.2 with h4 | ⟨g, cap, cur, hv, hb', hg, r⟩
  · exact .inl h4
  · refine .inr ⟨g, cap, cur, hv, hb', (Below.heap_setCell _ _ _ _ (fun e => hq ?_)).trans hg, r⟩
    rw [hv, show g = q from e]; rfl
theorem SinkAt.setRoom {w : World} {q : Nat} {acc : List UInt8} {room deep : Nat} {full : Bool} (h : SinkAt w q acc room deep full) (r : Nat) : SinkAt (w.setCell ⟨q, 1, none⟩ (.int .i64 (r : Nat))) q acc r deep full := by
  obtain ⟨v, h1, h2, h3⟩ := h.ex
  exact ⟨v, by simpa using heap_set (o := 1) h1 (.int .i64 (r : Nat)), own_set h2 h3 _ _, h3⟩
theorem SinkAt.setDeep {w : World} {q : Nat} {acc : List UInt8} {room deep : Nat} {full : Bool} (h : SinkAt w q acc room deep full) (r : Nat) : SinkAt (w.setCell ⟨q, 2, none⟩ (.int .i64 (r : Nat))) q acc room r full := by
  obtain ⟨v, h1, h2, h3⟩ := h.ex
  exact ⟨v, by simpa using heap_set (o := 2) h1 (.int .i64 (r : Nat)), own_set h2 h3 _ _, h3⟩
theorem SinkAt.setFull {w : World} {q : Nat} {acc : List UInt8} {room deep : Nat} {full : Bool} (h : SinkAt w q acc room deep full) (r : Bool) : SinkAt (w.setCell ⟨q, 3, none⟩ (.bool r)) q acc room deep r := by
  obtain ⟨v, h1, h2, h3⟩ := h.ex
  exact ⟨v, by simpa using heap_set (o := 3) h1 (.bool r), own_set h2 h3 _ _, h3⟩
end Go.Proofs.Ytinamdmefbmnnaa
