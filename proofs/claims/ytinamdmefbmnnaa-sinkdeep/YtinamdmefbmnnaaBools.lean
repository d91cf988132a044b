/-
  A slice of truths that came in, opened.
-/
import Derived.Test.YtinamdmefbmnnaaDeepWalk
import Derived.Test.YtinamdmefbmnnaaFrame
import Derived.Deep.Grids
import Derived.Deep.MidRow
namespace Go.Proofs.Ytinamdmefbmnnaa
open Go.ChangeShapes Go.WideShapes Go.ChangeAt Go.RowKit Go.Deep

theorem isBools_of {H : Type} {enc : TypeId × Value → H} {W : World} {a : Option Addr} {len cap : Nat} {d : DataW H} {p : List MemPlace}
    (h : DataW.Trod enc Try.prog W 0 (fun _ => true) true 40 (.slice a len cap) d p) : ∃ bs, IsBools W a len cap bs := by
  obtain ⟨fuel, hf⟩ := h
  rcases open_bools Try.underlying40 Try.underlying4 (by kernel_rfl) hf with ⟨hcs, _⟩ | ⟨x, l, c, B, hcs, _, hl, hm, _, hcell⟩
  · simp [Value.cells] at hcs
    obtain ⟨rfl, rfl, rfl⟩ := hcs
    exact ⟨[], rfl, Nat.le_refl _, by decide, .inl rfl⟩
  · simp [Value.cells] at hcs
    obtain ⟨rfl, rfl, rfl⟩ := hcs
    refine ⟨(List.range len).map B, by simp, hl, hm, ?_⟩
    by_cases h0 : len = 0
    · exact .inl h0
    · right
      obtain ⟨b, o, spot⟩ := x
      have hc0 := hcell 0 (by omega)
      have hspot : spot = none := by simpa [Addr.add] using World.cell?_spot hc0
      subst hspot
      refine ⟨b, o, rfl, block_lt_of_cell hc0, fun j y hy => ?_⟩
      rw [List.getElem?_map] at hy
      have hj : j < len := by
        rcases Nat.lt_or_ge j len with g | g
        · exact g
        · rw [List.getElem?_eq_none (by simpa using g)] at hy; simp at hy
      rw [List.getElem?_range hj] at hy
      have hc := hcell j (by omega)
      rw [Addr.add_mid] at hc
      rw [hc]
      simpa using hy
end Go.Proofs.Ytinamdmefbmnnaa
