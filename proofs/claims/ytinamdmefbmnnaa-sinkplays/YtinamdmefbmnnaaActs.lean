/-
  A slice of acts that came in, opened.
-/
import Derived.Test.YtinamdmefbmnnaaGreat
import Derived.Test.YtinamdmefbmnnaaStrs
import Derived.Deep.Slices
import Derived.Deep.Strs
namespace Go.Proofs.Ytinamdmefbmnnaa
open Go.ChangeShapes Go.WideShapes Go.ChangeAt Go.RowKit Go.Deep

theorem c33 : Try.prog.cellsOf 33 = 2 := by kernel_rfl
theorem c3 : Try.prog.cellsOf 3 = 1 := by kernel_rfl
theorem c31 : Try.prog.cellsOf 31 = 1 := by kernel_rfl
theorem choose_list {α : Type} {P : Nat → α → Prop} (n : Nat) (h : ∀ j, j < n → ∃ x, P j x) : ∃ xs : List α, xs.length = n ∧ ∀ j x, xs[j]? = some x → P j x := by
  induction n with
  | zero => exact ⟨[], rfl, fun j x hx => by simp at hx⟩
  | succ n ih =>
    obtain ⟨xs, hl, hp⟩ := ih (fun j hj => h j (by omega))
    obtain ⟨x, hx⟩ := h n (by omega)
    refine ⟨xs ++ [x], by simp [hl], fun j y hy => ?_⟩
    rcases Nat.lt_or_ge j n with g | g
    · rw [List.getElem?_append_left (by omega)] at hy
      exact hp j y hy
    · have hj : j = n := by
        have := (List.getElem?_eq_some_iff.1 hy).1
        simp [hl] at this
        omega
      subst hj
      rw [List.getElem?_append_right (by omega), hl] at hy
      simp at hy
      rw [← hy]; exact hx
theorem isActs_of {H : Type} {enc : TypeId × Value → H} {W : World} {a : Option Addr} {len cap : Nat} {d : DataW H} {p : List MemPlace}
    (h : DataW.Trod enc Try.prog W 0 (fun _ => true) true 22 (.slice a len cap) d p) : ∃ xs, IsActs W a len cap xs := by
  obtain ⟨fuel, hf⟩ := h
  rcases open_slice Try.underlying22 hf with ⟨hcs, _⟩ | ⟨x, l, c, m, n, D, Pl, hcs, _, hl, hm, hmm, _, hx⟩
  · simp [Value.cells] at hcs
    obtain ⟨rfl, rfl, rfl⟩ := hcs
    exact ⟨[], rfl, Nat.le_refl _, by decide, .inl rfl⟩
  · simp [Value.cells] at hcs
    obtain ⟨rfl, rfl, rfl⟩ := hcs
    have hmc : m = cap := by simpa using hmm
    subst hmc
    have key : ∀ j, j < len → ∃ y : ActV, W.cell? (x.add (j * 2)) = some (.int .i64 y.kind) ∧ W.cell? (x.add (j * 2 + 1)) = some (.slice y.a y.len y.cap) ∧ -9223372036854775808 ≤ y.kind ∧ y.kind ≤ 9223372036854775807 ∧ IsStrs W y.a y.len y.cap y.ss := by
      intro j hj
      obtain ⟨cs, hc, ht⟩ := hx j (by omega)
      rw [c33] at hc
      obtain ⟨y0, y1, n', _, _, g0, g1⟩ := trod_struct2 Try.underlying33 ht
      obtain ⟨_, hlen, hat⟩ := World.cells?_some hc
      rw [c3] at g0
      rw [c31] at g1
      obtain ⟨k, e0, _, w0⟩ := DataW.trod_int Try.underlying3 g0
      have b0 := bounds_i64 w0
      match cs, hlen with
      | [v0, v1], _ =>
        simp at e0
        subst e0
        have q0 := hat 0 (by omega)
        have q1 := hat 1 (by omega)
        rw [Go.Deep.add_add] at q0 q1
        have q0' : W.cell? (x.add (j * 2)) = some (.int .i64 k) := by simpa using q0
        have q1' : W.cell? (x.add (j * 2 + 1)) = some v1 := by simpa using q1
        have g1' : DataW.trod enc Try.prog W 0 (fun _ => true) true n' 31 [v1] = some y1 := by simpa using g1
        rcases open_slice Try.underlying31 g1' with ⟨hcs, _⟩ | ⟨x2, l2, c2, m2, n2, D2, Pl2, hcs, _⟩
        · simp at hcs
          subst hcs
          obtain ⟨ss, hss⟩ := isStrs_of (a := none) (len := 0) (cap := 0) (d := y1.1) (p := y1.2) ⟨n', by simpa [Value.cells] using g1'⟩
          exact ⟨⟨k, none, 0, 0, ss⟩, q0', q1', b0.1, b0.2, hss⟩
        · simp at hcs
          subst hcs
          obtain ⟨ss, hss⟩ := isStrs_of (a := some x2) (len := l2) (cap := c2) (d := y1.1) (p := y1.2) ⟨n', by simpa [Value.cells] using g1'⟩
          exact ⟨⟨k, some x2, l2, c2, ss⟩, q0', q1', b0.1, b0.2, hss⟩
    obtain ⟨xs, hxl, hxp⟩ := choose_list len key
    refine ⟨xs, hxl, hl, hm, ?_⟩
    by_cases h0 : len = 0
    · exact .inl h0
    · right
      obtain ⟨b, o, spot⟩ := x
      obtain ⟨y0, hc0, _⟩ := key 0 (by omega)
      have hspot : spot = none := by simpa [Addr.add] using World.cell?_spot hc0
      subst hspot
      refine ⟨b, o, rfl, block_lt_of_cell hc0, fun j y hy => ?_⟩
      obtain ⟨h1, h2, r⟩ := hxp j y hy
      rw [Addr.add_mid] at h1 h2
      exact ⟨h1, by rw [Nat.add_assoc]; exact h2, r⟩
end Go.Proofs.Ytinamdmefbmnnaa
