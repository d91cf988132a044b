/-
  A text laid out as bytes.
-/
import Derived.Test.YtjdmaindoohmkaaGreatDoorSd
import Derived.Laws.IdiomStrings
namespace Go.Proofs.YtjdmaindoohmkaaGreatDoor
open Go.RowKit Go.Sort

/-- The block b holds the bytes l. -/
structure BytesAt (w : World) (b : Nat) (l : List UInt8) : Prop where
  cells : ∀ j c, l[j]? = some c → w.cell? ⟨b, j, none⟩ = some (.int .u8 (c.toNat : Int))
  fz : ∀ j, j < l.length → w.frozen? ⟨b, j, none⟩ = false
  lt : b < w.heap.size
theorem conv_any (w : World) (l : List UInt8) : ∃ cap w', (convert 9 91 (.string ⟨l.toArray⟩)).run Tryz.prog w = .ok (.slice (some ⟨w.heap.size, 0, none⟩) l.length cap) w' ∧ l.length ≤ cap ∧ BytesAt w' w.heap.size l ∧ Below w.heap.size w w' := by
  have hsz : (ByteArray.mk l.toArray).size = l.length := by have := len_size (ByteArray.mk l.toArray); simpa using this.symm
  have hr := run_bytes_of_string (P := Tryz.prog) w 9 91 5 ⟨l.toArray⟩ Tryz.underlying9 Tryz.underlying91 Tryz.underlying5
  have hge := grownCap_ge w (ByteArray.mk l.toArray).size 0 5
  rw [hsz] at hr hge
  generalize grownCap w l.length 0 5 = cap at hr hge
  refine ⟨cap, _, hr, hge, ?_, ?_⟩
  · have e := heap_new w.drew (.cells (bytesRow ⟨l.toArray⟩ cap) 5 ((bytesRow ⟨l.toArray⟩ cap).size, (bytesRow ⟨l.toArray⟩ cap).size + 1))
    have hl : ∀ (j : Nat) (c : UInt8), l[j]? = some c → (bytesRow ⟨l.toArray⟩ cap)[j]? = some (Value.int .u8 (c.toNat : Int)) := by
      intro j c hj
      have hlt := (List.getElem?_eq_some_iff.1 hj).1
      unfold bytesRow
      rw [Array.getElem?_append_left (by simpa using hlt)]
      simp [hj]
    refine ⟨fun j c hj => ?_, fun j hj => ?_, by simp⟩
    · have e' : (w.drew.alloc (.cells (bytesRow ⟨l.toArray⟩ cap) 5 ((bytesRow ⟨l.toArray⟩ cap).size, (bytesRow ⟨l.toArray⟩ cap).size + 1))).heap[w.heap.size]? = some (.cells (bytesRow ⟨l.toArray⟩ cap) 5 ((bytesRow ⟨l.toArray⟩ cap).size, (bytesRow ⟨l.toArray⟩ cap).size + 1)) := e
      unfold World.cell?
      simp only [e']
      exact hl j c hj
    · have e' : (w.drew.alloc (.cells (bytesRow ⟨l.toArray⟩ cap) 5 ((bytesRow ⟨l.toArray⟩ cap).size, (bytesRow ⟨l.toArray⟩ cap).size + 1))).heap[w.heap.size]? = some (.cells (bytesRow ⟨l.toArray⟩ cap) 5 ((bytesRow ⟨l.toArray⟩ cap).size, (bytesRow ⟨l.toArray⟩ cap).size + 1)) := e
      have hj2 : j < (bytesRow ⟨l.toArray⟩ cap).size := (Array.getElem?_eq_some_iff.1 (hl j _ (List.getElem?_eq_getElem hj))).1
      unfold World.frozen?
      simp only [e']
      simp
      omega
  · exact (show Below w.heap.size w w.drew from ⟨rfl, rfl, rfl, Nat.le_refl _, fun _ _ => rfl⟩).alloc (Nat.le_refl _) _
end Go.Proofs.YtjdmaindoohmkaaGreatDoor
