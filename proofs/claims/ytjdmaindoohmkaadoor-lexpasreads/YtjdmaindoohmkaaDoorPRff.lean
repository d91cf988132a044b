/-
  The reference's step, walked; the state of its All.
-/
import Derived.Test.YtjdmaindoohmkaaDoorPTks
import Derived.Test.YtjdmaindoohmkaaDoorAt
import Derived.Test.YtjdmaindoohmkaaDoorHas
namespace Go.Proofs.YtjdmaindoohmkaaDoor.P
open Go.RowKit Go.Sort

set_option maxHeartbeats 1000000 in
theorem step_any (s : ByteArray) (k : Nat) (w : World) (hk : k < s.size) (hs : s.size ≤ maxLen) :
    Calls Tryd.prog 26 #[.agg #[.int .i64 (k : Nat), .int .i64 (lineOf s k : Nat), .int .i64 (colOf s k : Nat)], .int .u8 ((bt s k).toNat : Int)] w fun e w' => e = .returned (.agg #[.int .i64 ((k + 1 : Nat) : Int), .int .i64 (lineOf s (k + 1) : Nat), .int .i64 (colOf s (k + 1) : Nat)]) ∧ Below w.heap.size w w' := by
  have hl := line_le s k
  have hco := col_le s k
  unfold maxLen at hs
  by_cases hn : (bt s k).toNat = 10
  · have d : (((bt s k).toNat : Int) == 10) = true := by rw [hn]; rfl
    have E1 := Lib.hid (line_nl s k hk hn)
    have E2 := Lib.hid (col_nl s k hk hn)
    clear hn
    go_enter Tryd.func26, Tryd.ntmps26
    go_wp2_with fail
    rw [E1.out, E2.out]
    exact bodyPost_ret (v := .agg #[.int .i64 ((k + 1 : Nat) : Int), .int .i64 ((lineOf s k + 1 : Nat) : Int), .int .i64 0]) (by simp [results, Tryd.results26, go_sem]) rfl ⟨rfl, ((Below.refl _ _).alloc (Nat.le_refl _) _).alloc (by simp) _⟩
  · have d : (((bt s k).toNat : Int) == 10) = false := by simp; omega
    have E1 := Lib.hid (line_no s k hk hn)
    have E2 := Lib.hid (col_no s k hk hn)
    clear hn
    go_enter Tryd.func26, Tryd.ntmps26
    go_wp2_with fail
    rw [E1.out, E2.out]
    exact bodyPost_ret (v := .agg #[.int .i64 ((k + 1 : Nat) : Int), .int .i64 (lineOf s k : Nat), .int .i64 ((colOf s k + 1 : Nat) : Int)]) (by simp [results, Tryd.results26, go_sem]) rfl ⟨rfl, ((Below.refl _ _).alloc (Nat.le_refl _) _).alloc (by simp) _⟩
/-- The state of the reference's All. -/
structure AS (w : World) (s : ByteArray) (k : Nat) (v : Value) (acc : List Tk) (wr : World) : Prop where
  pos : PosAt wr (w.heap.size + 1) s k
  own : OwnT (w.heap.size + 2) wr v acc
  dz : wr.heap[w.heap.size]? = some (.cells #[.int .i64 0, .int .i64 0, .int .i64 0, .int .i64 0] 28)
  bel : Below w.heap.size w wr
theorem AS.below {w wr w2 : World} {k : Nat} {s : ByteArray} {v : Value} {acc : List Tk} (h : AS w s k v acc wr) (b : Below wr.heap.size wr w2) : AS w s k v acc w2 :=
  ⟨⟨(b.block _ h.pos.lt).trans h.pos.blk⟩, h.own.below b, (b.block _ (heap_lt h.dz)).trans h.dz, h.bel.trans (b.mono h.bel.size)⟩
theorem AS.drew {w wr : World} {k : Nat} {s : ByteArray} {v : Value} {acc : List Tk} (h : AS w s k v acc wr) : AS w s k v acc wr.drew :=
  h.below ⟨rfl, rfl, rfl, Nat.le_refl _, fun _ _ => rfl⟩
theorem AS.move {w wr : World} {k : Nat} {s : ByteArray} {v : Value} {acc : List Tk} (h : AS w s k v acc wr) (j : Nat) : AS w s j v acc (((wr.setCell ⟨w.heap.size + 1, 0, none⟩ (.int .i64 (j : Nat))).setCell ⟨w.heap.size + 1, 1, none⟩ (.int .i64 (lineOf s j : Nat))).setCell ⟨w.heap.size + 1, 2, none⟩ (.int .i64 (colOf s j : Nat))) := by
  have ne : ∀ b, b ≠ w.heap.size + 1 → (((wr.setCell ⟨w.heap.size + 1, 0, none⟩ (.int .i64 (j : Nat))).setCell ⟨w.heap.size + 1, 1, none⟩ (.int .i64 (lineOf s j : Nat))).setCell ⟨w.heap.size + 1, 2, none⟩ (.int .i64 (colOf s j : Nat))).heap[b]? = wr.heap[b]? := fun b hb => by
    rw [Below.heap_setCell _ _ _ _ (by simp; omega), Below.heap_setCell _ _ _ _ (by simp; omega), Below.heap_setCell _ _ _ _ (by simp; omega)]
  refine ⟨⟨?_⟩, h.own.kept fun b hb => ne b (by have := (h.own.lt b hb).1; omega), (ne _ (by omega)).trans h.dz, ((h.bel.setCell (by simp) _).setCell (by simp) _).setCell (by simp) _⟩
  rw [heap_set (heap_set (heap_set h.pos.blk _) _) _]
  simp
theorem AS.app {w wr w2 : World} {k : Nat} {s : ByteArray} {v v' : Value} {acc acc' : List Tk} (h : AS w s k v acc wr) (g : wr.grownBy w2 v.ownBlock) (o : OwnT (w.heap.size + 2) w2 v' acc') : AS w s k v' acc' w2 := by
  have hne : ∀ b, b < w.heap.size + 2 → some b ≠ v.ownBlock := fun b hb e => by have := (h.own.lt b e.symm).1; omega
  refine ⟨⟨(g.block _ h.pos.lt (hne _ (by omega))).trans h.pos.blk⟩, o, (g.block _ (heap_lt h.dz) (hne _ (by omega))).trans h.dz, ?_⟩
  exact ⟨g.os.trans h.bel.os, g.tape.trans h.bel.tape, g.output.trans h.bel.output, Nat.le_trans h.bel.size g.size, fun b hb => (g.block b (Nat.lt_of_lt_of_le hb h.bel.size) (hne b (by omega))).trans (h.bel.block b hb)⟩
theorem AS.dzf {w wr : World} {k : Nat} {s : ByteArray} {v : Value} {acc : List Tk} (h : AS w s k v acc wr) : wr.cell? ⟨w.heap.size, 0, none⟩ = some (.int .i64 0) ∧ wr.cell? ⟨w.heap.size, 1, none⟩ = some (.int .i64 0) ∧ wr.cell? ⟨w.heap.size, 2, none⟩ = some (.int .i64 0) ∧ wr.cell? ⟨w.heap.size, 3, none⟩ = some (.int .i64 0) ∧ ∀ o, wr.frozen? ⟨w.heap.size, o, none⟩ = false := by
  have := h.dz
  refine ⟨?_, ?_, ?_, ?_, fun o => ?_⟩ <;> simp [World.cell?, World.frozen?, this]
/-- How much is ahead of a place. -/
def leftP (s : ByteArray) (b : Nat) (w : World) : Nat := s.size - (match w.cell? ⟨b, 0, none⟩ with | some v => (intOf v).toNat | none => 0)
theorem leftP_at {w : World} {b : Nat} {s : ByteArray} {k : Nat} (h : PosAt w b s k) : leftP s b w = s.size - k := by
  unfold leftP
  rw [h.c0]
  simp [intOf]
def setR : ByteArray := ⟨#[32, 9, 13, 10]⟩
theorem setR_is (c : UInt8) : inTo setR setR.size c.toNat = isBl c := by
  have := all8 (q := fun c => inTo setR setR.size c.toNat == isBl c) (by decide +kernel) c
  simpa using this
theorem blEnd_in (s : ByteArray) (k : Nat) (h : k < s.size) (hb : isBl (bt s k) = true) : blEnd s k = blEnd s (k + 1) := by
  unfold blEnd
  rw [drop_bt s k h, List.takeWhile_cons, if_pos hb, List.length_cons]
  omega
theorem blEnd_out (s : ByteArray) (k : Nat) (h : ¬ (k < s.size ∧ isBl (bt s k) = true)) : blEnd s k = k := by
  unfold blEnd
  by_cases hk : k < s.size
  · rw [drop_bt s k hk, List.takeWhile_cons, if_neg (fun hb => h ⟨hk, hb⟩)]; rfl
  · rw [drop_end s k hk]; rfl
end Go.Proofs.YtjdmaindoohmkaaDoor.P
