/-
  A list of bytes that came in, opened.
-/
import Derived.Test.YtjdmaindoohmkaaDoorPFrame
import Derived.Test.YtjdmaindoohmkaaDoorPBlaWalk
import Derived.ChangeSlices
namespace Go.Proofs.YtjdmaindoohmkaaDoor.P
open Go.ChangeShapes Go.WideShapes Go.ChangeAt Go.RowKit

theorem isBytes_of {H : Type} {enc : TypeId × Value → H} {W : World} {a : Option Addr} {len cap : Nat} {d : DataW H} {p : List MemPlace}
    (h : DataW.Trod enc Tryd.prog W 0 (fun _ => true) true 34 (.slice a len cap) d p) : ∃ bs, IsBytes W a len cap bs := by
  obtain ⟨fuel, hf⟩ := h
  rcases open_ints Tryd.underlying34 Tryd.underlying5 (by kernel_rfl) hf with ⟨hcs, _⟩ | ⟨x, l, c, zs, hcs, _, hl, hm, hz, _, hcell, hws⟩
  · simp [Value.cells] at hcs
    obtain ⟨rfl, rfl, rfl⟩ := hcs
    exact ⟨[], rfl, Nat.le_refl _, by decide, by simp, .inl rfl⟩
  · simp [Value.cells] at hcs
    obtain ⟨rfl, rfl, rfl⟩ := hcs
    have hz' : zs.length = cap := by simpa using hz
    refine ⟨zs.take len, by simp; omega, hl, hm, fun y hy => ?_, ?_⟩
    · have := hws y (List.mem_of_mem_take hy)
      have h2 : (decide ((0 : Int) ≤ y) && decide (y ≤ 255)) = true := this
      simpa using h2
    · by_cases h0 : len = 0
      · exact .inl h0
      · right
        obtain ⟨b, o, spot⟩ := x
        have hc0 := hcell 0 (by omega)
        have hspot : spot = none := by simpa [Addr.add] using World.cell?_spot hc0
        subst hspot
        refine ⟨b, o, rfl, block_lt_of_cell hc0, fun j y hy => ?_⟩
        have hj : j < len := by
          have := (List.getElem?_eq_some_iff.1 hy).1
          simp at this; omega
        rw [List.getElem?_take_of_lt hj] at hy
        have hc := hcell j (by omega)
        rw [List.getD_eq_getElem?_getD, hy] at hc
        rw [Addr.add_mid] at hc
        exact hc
end Go.Proofs.YtjdmaindoohmkaaDoor.P
