/-
  Places, walked: the reference's At and text.At.
-/
import Derived.Test.YtjdmaindoohmkaaGreatDoorCur
namespace Go.Proofs.YtjdmaindoohmkaaGreatDoor
open Go.RowKit

theorem Only.set {b : Nat} {a w : World} (h : Only b a w) (o : Nat) (u : Value) : Only b a (w.setCell ⟨b, o, none⟩ u) := h.setCell rfl u
def posV (s : ByteArray) (k : Nat) : Value := .agg #[.int .i64 (k : Nat), .int .i64 (lineOf s k : Nat), .int .i64 (colOf s k : Nat)]
def posC (s : ByteArray) (k : Nat) : Array Value := #[.int .i64 (k : Nat), .int .i64 (lineOf s k : Nat), .int .i64 (colOf s k : Nat)]
structure PosAt (w : World) (b : Nat) (s : ByteArray) (k : Nat) : Prop where
  blk : w.heap[b]? = some (.cells #[.int .i64 (k : Nat), .int .i64 (lineOf s k : Nat), .int .i64 (colOf s k : Nat)] 26)
theorem PosAt.lt {w : World} {b : Nat} {s : ByteArray} {k : Nat} (h : PosAt w b s k) : b < w.heap.size := heap_lt h.blk
theorem PosAt.c0 {w : World} {b : Nat} {s : ByteArray} {k : Nat} (h : PosAt w b s k) : w.cell? ⟨b, 0, none⟩ = some (.int .i64 (k : Nat)) := by simp [World.cell?, h.blk]
theorem PosAt.c1 {w : World} {b : Nat} {s : ByteArray} {k : Nat} (h : PosAt w b s k) : w.cell? ⟨b, 1, none⟩ = some (.int .i64 (lineOf s k : Nat)) := by simp [World.cell?, h.blk]
theorem PosAt.c2 {w : World} {b : Nat} {s : ByteArray} {k : Nat} (h : PosAt w b s k) : w.cell? ⟨b, 2, none⟩ = some (.int .i64 (colOf s k : Nat)) := by simp [World.cell?, h.blk]
theorem PosAt.fz {w : World} {b : Nat} {s : ByteArray} {k : Nat} (h : PosAt w b s k) (o : Nat) : w.frozen? ⟨b, o, none⟩ = false := by simp [World.frozen?, h.blk]

theorem new2 (s : ByteArray) (w : World) :
    Calls Tryz.prog 12 #[.string s] w fun e w' => e = .returned (.pointer (some ⟨w.heap.size, 0, none⟩)) ∧ CurAt w' w.heap.size s 0 ∧ Below w.heap.size w w' :=
  (new_any s w).mono fun _ _ ⟨he, hw⟩ => ⟨he, by rw [hw]; exact CurAt.new w s, by rw [hw]; exact (Below.refl _ _).alloc (Nat.le_refl _) _⟩
end Go.Proofs.YtjdmaindoohmkaaGreatDoor
