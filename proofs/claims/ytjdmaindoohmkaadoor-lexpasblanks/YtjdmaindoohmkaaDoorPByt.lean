/-
  Bytes of one's own: a text laid out, turned byte by byte.
-/
import Derived.Test.YtjdmaindoohmkaaDoorPAwk
import Derived.Test.YtjdmaindoohmkaaDoorPGrt
import Derived.Laws.IdiomStrings
namespace Go.Proofs.YtjdmaindoohmkaaDoor.P
open Go.RowKit Go.Sort

/-- The block b holds the bytes l. -/
structure BytesAt (w : World) (b : Nat) (l : List UInt8) : Prop where
  cells : ∀ j c, l[j]? = some c → w.cell? ⟨b, j, none⟩ = some (.int .u8 (c.toNat : Int))
  fz : ∀ j, j < l.length → w.frozen? ⟨b, j, none⟩ = false
  lt : b < w.heap.size
theorem conv_any (w : World) (l : List UInt8) : ∃ cap w', (convert 9 34 (.string ⟨l.toArray⟩)).run Tryd.prog w = .ok (.slice (some ⟨w.heap.size, 0, none⟩) l.length cap) w' ∧ l.length ≤ cap ∧ BytesAt w' w.heap.size l ∧ Below w.heap.size w w' := by
  have hsz : (ByteArray.mk l.toArray).size = l.length := by have := len_size (ByteArray.mk l.toArray); simpa using this.symm
  have hr := run_bytes_of_string (P := Tryd.prog) w 9 34 5 ⟨l.toArray⟩ Tryd.underlying9 Tryd.underlying34 Tryd.underlying5
  have hge := grownCap_ge w (ByteArray.mk l.toArray).size 0 5
  rw [hsz] at hr hge
  generalize grownCap w l.length 0 5 = cap at hr hge
  refine ⟨cap, _, hr, hge, ?_, ?_⟩
  · have e := heap_new w.drew (.cells (bytesRow ⟨l.toArray⟩ cap) 5 ((bytesRow ⟨l.toArray⟩ cap).size, (bytesRow ⟨l.toArray⟩ cap).size + 1))
    have hl : ∀ (j : Nat) (c : UInt8), l[j]? = some c → (bytesRow ⟨l.toArray⟩ cap)[j]? = some (Value.int .u8 (c.toNat : Int)) := by
      intro j c hj
      have hlt := (List.getElem?_eq_some_iff.1 hj).1
      unfold bytesRow
      rw [Array.getElem?_append_left (by simpa using hlt)]
      simp [hj]
    refine ⟨fun j c hj => ?_, fun j hj => ?_, by simp⟩
    · have e' : (w.drew.alloc (.cells (bytesRow ⟨l.toArray⟩ cap) 5 ((bytesRow ⟨l.toArray⟩ cap).size, (bytesRow ⟨l.toArray⟩ cap).size + 1))).heap[w.heap.size]? = some (.cells (bytesRow ⟨l.toArray⟩ cap) 5 ((bytesRow ⟨l.toArray⟩ cap).size, (bytesRow ⟨l.toArray⟩ cap).size + 1)) := e
      unfold World.cell?
      simp only [e']
      exact hl j c hj
    · have e' : (w.drew.alloc (.cells (bytesRow ⟨l.toArray⟩ cap) 5 ((bytesRow ⟨l.toArray⟩ cap).size, (bytesRow ⟨l.toArray⟩ cap).size + 1))).heap[w.heap.size]? = some (.cells (bytesRow ⟨l.toArray⟩ cap) 5 ((bytesRow ⟨l.toArray⟩ cap).size, (bytesRow ⟨l.toArray⟩ cap).size + 1)) := e
      have hj2 : j < (bytesRow ⟨l.toArray⟩ cap).size := (Array.getElem?_eq_some_iff.1 (hl j _ (List.getElem?_eq_getElem hj))).1
      unfold World.frozen?
      simp only [e']
      simp
      omega
  · exact (show Below w.heap.size w w.drew from ⟨rfl, rfl, rfl, Nat.le_refl _, fun _ _ => rfl⟩).alloc (Nat.le_refl _) _
theorem BytesAt.set {w : World} {b k : Nat} {l : List UInt8} (h : BytesAt w b l) (hk : k < l.length) (c : UInt8) : BytesAt (w.setCell ⟨b, k, none⟩ (.int .u8 (c.toNat : Int))) b (l.set k c) := by
  have hv := h.cells k _ (List.getElem?_eq_getElem hk)
  refine ⟨fun j x hj => ?_, fun j hj => ?_, ?_⟩
  · rw [List.getElem?_set] at hj
    by_cases e : k = j
    · subst e
      rw [if_pos rfl, if_pos hk] at hj
      cases hj
      exact World.cell?_setCell_same _ _ _ hv
    · rw [if_neg e] at hj
      rw [World.cell?_setCell_other _ _ _ _ (by intro he; exact e (Addr.mk.inj he).2.1)]
      exact h.cells j x hj
  · rw [List.length_set] at hj
    rw [World.frozen?_setCell]
    exact h.fz j hj
  · have := h.lt
    simpa [World.setCell] using this
def upTo (l : List UInt8) (k : Nat) : List UInt8 := (l.take k).map upB ++ l.drop k
theorem upTo_0 (l : List UInt8) : upTo l 0 = l := by simp [upTo]
theorem upTo_len (l : List UInt8) (k : Nat) : (upTo l k).length = l.length := by simp [upTo]; omega
theorem upTo_all (l : List UInt8) (k : Nat) (h : l.length ≤ k) : upTo l k = l.map upB := by
  unfold upTo; rw [List.take_of_length_le h, List.drop_of_length_le h, List.append_nil]
theorem upTo_at {l : List UInt8} {k : Nat} {c : UInt8} (h : l[k]? = some c) : (upTo l k)[k]? = some c := by
  have hk := (List.getElem?_eq_some_iff.1 h).1
  unfold upTo
  rw [List.getElem?_append_right (by simp; omega)]
  simp
  rw [show k - min k l.length = 0 by omega]
  simpa using h
theorem upTo_succ {l : List UInt8} {k : Nat} {c : UInt8} (h : l[k]? = some c) : upTo l (k + 1) = (upTo l k).set k (upB c) := by
  have hk := (List.getElem?_eq_some_iff.1 h).1
  have e : l.drop k = c :: l.drop (k + 1) := by rw [List.drop_eq_getElem_cons hk]; congr 1; exact (List.getElem?_eq_some_iff.1 h).2
  unfold upTo
  rw [e, List.take_add_one, h, List.set_append_right _ _ (by simp; omega)]
  simp
  rw [show k - min k l.length = 0 by omega]
  simp
end Go.Proofs.YtjdmaindoohmkaaDoor.P
