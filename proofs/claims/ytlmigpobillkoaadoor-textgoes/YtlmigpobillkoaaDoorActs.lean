/-
  A slice of acts that came in, opened.
-/
import Derived.Test.YtlmigpobillkoaaDoorGoWalk
import Derived.Test.YtlmigpobillkoaaDoorFrame
import Derived.Deep.Slices
import Derived.Deep.Strs
namespace Go.Proofs.YtlmigpobillkoaaDoor
open Go.ChangeShapes Go.WideShapes Go.ChangeAt Go.RowKit Go.Deep

theorem c27 : Tryd.prog.cellsOf 27 = 3 := by kernel_rfl
theorem c3 : Tryd.prog.cellsOf 3 = 1 := by kernel_rfl
theorem c9 : Tryd.prog.cellsOf 9 = 1 := by kernel_rfl
theorem isActs_of {H : Type} {enc : TypeId × Value → H} {W : World} {a : Option Addr} {len cap : Nat} {d : DataW H} {p : List MemPlace}
    (h : DataW.Trod enc Tryd.prog W 0 (fun _ => true) true 22 (.slice a len cap) d p) : IsActs W a len cap := by
  obtain ⟨fuel, hf⟩ := h
  rcases open_slice Tryd.underlying22 hf with ⟨hcs, _⟩ | ⟨x, l, c, m, n, D, Pl, hcs, _, hl, hm, hmm, _, hx⟩
  · simp [Value.cells] at hcs
    obtain ⟨rfl, rfl, rfl⟩ := hcs
    exact ⟨Nat.le_refl _, by decide, .inl rfl⟩
  · simp [Value.cells] at hcs
    obtain ⟨rfl, rfl, rfl⟩ := hcs
    refine ⟨hl, hm, ?_⟩
    have hmc : m = cap := by simpa using hmm
    subst hmc
    by_cases h0 : len = 0
    · exact .inl h0
    · right
      have key : ∀ j, j < len → ∃ (k n : Int) (y : ByteArray), W.cell? (x.add (j * 3)) = some (.int .i64 k) ∧ W.cell? (x.add (j * 3 + 1)) = some (.int .i64 n) ∧ W.cell? (x.add (j * 3 + 2)) = some (.string y) ∧ -9223372036854775808 ≤ k ∧ k ≤ 9223372036854775807 ∧ -9223372036854775808 ≤ n ∧ n ≤ 9223372036854775807 ∧ y.size ≤ maxLen := by
        intro j hj
        obtain ⟨cs, hc, ht⟩ := hx j (by omega)
        rw [c27] at hc
        obtain ⟨y0, y1, y2, n', _, _, g0, g1, g2⟩ := trod_struct3 Tryd.underlying27 ht
        obtain ⟨_, hlen, hat⟩ := World.cells?_some hc
        rw [c3] at g0 g1
        rw [c9] at g2
        obtain ⟨k, e0, _, w0⟩ := DataW.trod_int Tryd.underlying3 g0
        obtain ⟨nn, e1, _, w1⟩ := DataW.trod_int Tryd.underlying3 g1
        obtain ⟨y, e2, _, hy⟩ := DataW.trod_string Tryd.underlying9 g2
        have b0 := bounds_i64 w0
        have b1 := bounds_i64 w1
        match cs, hlen with
        | [v0, v1, v2], _ =>
          simp at e0 e1 e2
          subst e0 e1 e2
          have q0 := hat 0 (by omega)
          have q1 := hat 1 (by omega)
          have q2 := hat 2 (by omega)
          rw [Go.Deep.add_add] at q0 q1 q2
          exact ⟨k, nn, y, by simpa using q0, by simpa using q1, by simpa using q2, b0.1, b0.2, b1.1, b1.2, hy⟩
      obtain ⟨b, o, spot⟩ := x
      obtain ⟨k0, n0, y0, hc0, _⟩ := key 0 (by omega)
      have hspot : spot = none := by simpa [Addr.add] using World.cell?_spot hc0
      subst hspot
      refine ⟨b, o, rfl, block_lt_of_cell hc0, fun j hj => ?_⟩
      obtain ⟨k, n', y, h1, h2, h3, r⟩ := key j hj
      rw [Addr.add_mid] at h1 h2 h3
      exact ⟨k, n', y, h1, by rw [Nat.add_assoc]; exact h2, by rw [Nat.add_assoc]; exact h3, r⟩
end Go.Proofs.YtlmigpobillkoaaDoor
