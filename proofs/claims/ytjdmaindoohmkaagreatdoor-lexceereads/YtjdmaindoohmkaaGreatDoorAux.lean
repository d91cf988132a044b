/-
  A slice of tokens, however it came to be.
-/
import Derived.Test.YtjdmaindoohmkaaGreatDoorAwk
namespace Go.Proofs.YtjdmaindoohmkaaGreatDoor
open Go.RowKit Go.Sort

/-- A slice of tokens, however it came to be. -/
theorem OwnT.any {base : Nat} {w : World} {v : Value} {ts : List Tk} (h : OwnT base w v ts) : ∃ a cap, v = .slice a ts.length cap ∧ ts.length ≤ cap ∧ cap ≤ maxLen ∧ (ts ≠ [] → ∃ g, a = some ⟨g, 0, none⟩ ∧ base ≤ g ∧ g < w.heap.size ∧ ∀ i t, ts[i]? = some t → ∀ j u, (tkCells t)[j]? = some u → w.cell? ⟨g, i * 7 + j, none⟩ = some u) := by
  rcases h.slice with ⟨rfl, rfl⟩ | ⟨g, cap, rfl, h1, h2, h3, h4, h5⟩
  · exact ⟨none, 0, rfl, Nat.le_refl _, by decide, fun h => absurd rfl h⟩
  · exact ⟨_, cap, rfl, h3, h4, fun _ => ⟨g, rfl, h1, h2, h5⟩⟩
end Go.Proofs.YtjdmaindoohmkaaGreatDoor
