/-
  A builder that is written while a text is gone through: its calls, in one word.
-/
import Derived.Test.YtjdmaindoohmkaaDoorNtb
namespace Go.Proofs.YtjdmaindoohmkaaDoor
open Go.RowKit

theorem cell_new (w : World) (c : Array Value) (t : TypeId) (o : Nat) : (w.alloc (.cells c t)).cell? ⟨w.heap.size, o, none⟩ = c[o]? := by
  unfold World.cell?
  rw [heap_new]
  rfl
theorem ext_drop (s : ByteArray) (k : Nat) : (s.extract k s.size).data.toList = s.data.toList.drop k := by
  simp only [ByteArray.data_extract, Array.toList_extract, List.extract_eq_take_drop]
  rw [List.take_of_length_le (by simp)]
theorem has_yes (s : ByteArray) (k : Nat) (d : Int) (w : World) (h : clos d (s.data.toList.drop k) = true) :
    Calls Tryd.prog 82 #[.string (s.extract k s.size), .string (clA d)] w fun e w' => e = .returned (.bool true) ∧ w' = w := by
  have := Tryd.strings_HasPrefix (s.extract k s.size) (clA d) w
  rw [ext_drop, clA_l, show Lib.hasPrefix (s.data.toList.drop k) (clL d) = true from h] at this
  exact this
theorem has_no (s : ByteArray) (k : Nat) (d : Int) (w : World) (h : clos d (s.data.toList.drop k) = false) :
    Calls Tryd.prog 82 #[.string (s.extract k s.size), .string (clA d)] w fun e w' => e = .returned (.bool false) ∧ w' = w := by
  have := Tryd.strings_HasPrefix (s.extract k s.size) (clA d) w
  rw [ext_drop, clA_l, show Lib.hasPrefix (s.data.toList.drop k) (clL d) = false from h] at this
  exact this

/-- In wr the block B is a builder that holds acc, the block k goes through s and stands at pos; below B all is as in w0. -/
structure Bld (w0 : World) (B k : Nat) (s : ByteArray) (pos : Nat) (acc : List UInt8) (wr : World) : Prop where
  bld : Lib.IsBuilderF 90 5 B B (Lib.byteCells acc) wr
  it : wr.heap[k]? = some (.stringIter s pos)
  bel : Below B w0 wr
  lt : B < k
theorem Bld.size {w0 wr : World} {B k pos : Nat} {s : ByteArray} {acc : List UInt8} (h : Bld w0 B k s pos acc wr) : B ≤ wr.heap.size := by
  have := (Array.getElem?_eq_some_iff.1 h.it).1
  have := h.lt
  omega
theorem Bld.next {w0 wr : World} {B k pos : Nat} {s : ByteArray} {acc : List UInt8} (h : Bld w0 B k s pos acc wr) (p : Nat) : Bld w0 B k s p acc (wr.iterAt k s p) :=
  ⟨h.bld.iterAt h.it p, Lib.iterAt_heap wr k s pos p h.it, Lib.below_iterAt h.bel (Nat.le_of_lt h.lt) s p, h.lt⟩
theorem Bld.drewN {w0 wr : World} {B k pos : Nat} {s : ByteArray} {acc : List UInt8} (h : Bld w0 B k s pos acc wr) (n : Nat) : Bld w0 B k s pos acc (wr.drewN n) :=
  ⟨h.bld, h.it, ⟨h.bel.os, h.bel.tape, h.bel.output, h.bel.size, h.bel.block⟩, h.lt⟩
theorem Bld.cell {w0 wr : World} {B k pos : Nat} {s : ByteArray} {acc : List UInt8} (h : Bld w0 B k s pos acc wr) (b o : Nat) (hb : b < B) : wr.cell? ⟨b, o, none⟩ = w0.cell? ⟨b, o, none⟩ :=
  h.bel.cell (p := ⟨b, o, none⟩) hb
theorem Bld.pos {w0 wr : World} {B k pos : Nat} {s : ByteArray} {acc : List UInt8} (h : Bld w0 B k s pos acc wr) : wr.iterPos k = pos := by
  simp only [World.iterPos, h.it]
theorem Bld.nextLow {w0 wr : World} {B k pos : Nat} {s : ByteArray} {acc : List UInt8} (h : Bld w0 B k s pos acc wr) (hp : pos < s.size) (hi : (bt s pos).toNat < 128) (ty : TypeId) :
    (Instr.next (.pointer (some ⟨k, 0, none⟩)) true ty).run Tryd.prog wr = .ok (.tuple #[.bool true, .int .i64 pos, .int .i32 (bt s pos).toNat]) (wr.iterAt k s (pos + 1)) := by
  have := Lib.run_next_ascii_at (P := Tryd.prog) wr k s pos ty h.it hp (by rw [bt_eq s pos hp]; exact hi)
  rw [bt_eq s pos hp] at this
  exact this
theorem rune_low (c : UInt8) (hc : c.toNat < 128) : Lib.runeCells (c.toNat : Int) = Lib.byteCells [c] := by
  unfold Lib.runeCells Lib.byteCells
  rw [Lib.encodeRuneZ_one (by omega) (by omega)]
  rfl
theorem Bld.writeRune {w0 wr : World} {B k pos : Nat} {s : ByteArray} {acc : List UInt8} (h : Bld w0 B k s pos acc wr) (c : UInt8) (hc : c.toNat < 128) (hl : acc.length ≤ 1000000) :
    Calls Tryd.prog 91 #[.pointer (some ⟨B, 0, none⟩), .int .i32 (c.toNat : Int)] wr fun e w' => e = .returned (.tuple #[.int .i64 1, .nilIface]) ∧ Bld w0 B k s pos (acc ++ [c]) w' := by
  refine (Tryd.Builder_WriteRune_k B B _ c.toNat (by omega) (by omega) wr h.bld (by rw [Lib.byteCells_length]; omega) h.size).mono ?_
  rw [rune_low c hc]
  rintro e w' ⟨rfl, h1, b1, k1⟩
  refine ⟨rfl, ?_, k1.iter h.it (Nat.ne_of_gt h.lt), h.bel.trans b1, h.lt⟩
  rw [Lib.byteCells_append]
  exact Or.inr h1
theorem Bld.string {w0 wr : World} {B k pos : Nat} {s : ByteArray} {acc : List UInt8} (h : Bld w0 B k s pos acc wr) :
    Calls Tryd.prog 64 #[.pointer (some ⟨B, 0, none⟩)] wr fun e w' => e = .returned (.string ⟨acc.toArray⟩) ∧ Bld w0 B k s pos acc w' := by
  refine (Tryd.Builder_String_any_k B B acc wr h.bld h.size).mono ?_
  rintro e w' ⟨rfl, h1, b1, k1⟩
  exact ⟨rfl, h1, k1.iter h.it (Nat.ne_of_gt h.lt), h.bel.trans b1, h.lt⟩
theorem Bld.len {w0 wr : World} {B k pos : Nat} {s : ByteArray} {acc : List UInt8} (h : Bld w0 B k s pos acc wr) :
    Calls Tryd.prog 101 #[.pointer (some ⟨B, 0, none⟩)] wr fun e w' => e = .returned (.int .i64 (acc.length : Nat)) ∧ wr = w' := by
  refine (Tryd.Builder_Len_f B B _ wr h.bld).mono ?_
  rw [Lib.byteCells_length]
  rintro e w' ⟨rfl, rfl⟩
  exact ⟨rfl, rfl⟩
/-- A new builder, written once, and then an iterator. -/
theorem Bld.begin {w0 w1 : World} {s : ByteArray} {acc : List UInt8} (h : Lib.IsBuilderF 90 5 w0.heap.size w0.heap.size (Lib.byteCells acc) w1) (hb : Below w0.heap.size w0 w1) (hz : w0.heap.size < w1.heap.size) :
    Bld w0 w0.heap.size w1.heap.size s 0 acc (w1.iter s 0) :=
  ⟨h.alloc _, World.iter_heap w1 s 0, hb.alloc (Nat.le_of_lt hz) _, hz⟩
end Go.Proofs.YtjdmaindoohmkaaDoor
