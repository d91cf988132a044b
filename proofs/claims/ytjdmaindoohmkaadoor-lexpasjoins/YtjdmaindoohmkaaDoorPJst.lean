/-
  Tokens of two texts, one behind the other: the law's last region.
-/
import Derived.Test.YtjdmaindoohmkaaDoorPBar
import Derived.Test.YtjdmaindoohmkaaDoorPJnp
namespace Go.Proofs.YtjdmaindoohmkaaDoor.P
open Go.RowKit Go.Sort

theorem step_appT {ops : Array Oper} {o : Oper} {a : Act} {K : Act → World → Prop} {Q : Exit → Act → World → Prop} {E : Prop} (hw : Region.wanted o (yielded ops a.tmps) = true) (sl x : Operand)
    (ho : o.op = .call { callee := .builtin .append, args := #[sl, x], argTypes := #[23, 23] })
    {base : Nat} {w : World} {v : Value} {ts : List Tk} (h : OwnT base w v ts) (hbase : base ≤ w.heap.size) {b m cap : Nat} {ns : List Tk} (hm : ns.length = m) (hn : ∀ j u, (tkAll ns)[j]? = some u → w.cell? ⟨b, 0 + j, none⟩ = some u)
    (hs : a.eval sl = v) (hx : a.eval x = .slice (some ⟨b, 0, none⟩) m cap) (hb : ts.length + m ≤ 1000000)
    (hk : ∀ v' w', OwnT base w' v' (ts ++ ns) → w.grownBy w' v.ownBlock → K (a.put o.dst v') w') :
    if Region.wanted o (yielded ops a.tmps) = true then Oper.wp Tryd.prog o a w K Q else E := by
  rw [if_pos hw]
  obtain ⟨v', w', hr, h2, h3⟩ := run_appT o.type h hbase (o := 0) (cap := cap) hm hn hb
  unfold Oper.wp execOp
  simp only [ho, resolve, invoke, builtin, Sem.run_bind, Sem.run_pure, Result.andThen_ok, List.map_toArray, List.map_cons, List.map_nil, hs, hx, hr]
  exact hk v' w' h2 h3
theorem OwnT.cut {base g cap : Nat} {w : World} {ts : List Tk} {t : Tk} (h : OwnT base w (.slice (some ⟨g, 0, none⟩) (ts ++ [t]).length cap) (ts ++ [t])) : OwnT base w (.slice (some ⟨g, 0, none⟩) ts.length cap) ts := by
  refine ⟨tkAll_len ts, ?_⟩
  rcases h.2 with ⟨h1, _⟩ | ⟨g', cap', cur, hv, hb, hg, hn, hm, hs, ht⟩
  · cases h1
  · cases hv
    refine .inr ⟨g, cap, cur, rfl, hb, hg, ?_, hm, hs, ?_⟩
    · simp at hn; omega
    · have h2 := congrArg (List.take (ts.length * 7)) ht
      rw [List.take_take, Nat.min_eq_left (by simp; omega), tkAll_snoc, List.take_append_of_le_length (by rw [tkAll_len]; omega)] at h2
      exact h2.trans (List.take_of_length_le (by rw [tkAll_len]; omega))
theorem IsToks.flat {w : World} {g n cap : Nat} {ts : List Tk} (h : IsToks w (.slice (some ⟨g, 0, none⟩) n cap) ts) : ts.length = n ∧ ∀ j u, (tkAll ts)[j]? = some u → w.cell? ⟨g, 0 + j, none⟩ = some u := by
  obtain ⟨a, c, h1, h2, h3, h4⟩ := h
  cases h1
  refine ⟨rfl, fun j u hj => ?_⟩
  have hjl : j < ts.length * 7 := by have := (List.getElem?_eq_some_iff.1 hj).1; rw [tkAll_len] at this; exact this
  have hi : j / 7 < ts.length := by omega
  have hne : ts ≠ [] := fun e => by rw [e] at hi; simp at hi
  obtain ⟨g', hg, _, hc⟩ := h4 hne
  cases hg
  have ht : ts[j / 7]? = some ts[j / 7] := List.getElem?_eq_getElem hi
  have hat := tkAll_at ts (j / 7) (j % 7) _ ht (by omega)
  rw [show j / 7 * 7 + j % 7 = j by omega, hj] at hat
  have := hc (j / 7) _ ht (j % 7) u hat.symm
  rw [show j / 7 * 7 + j % 7 = j by omega] at this
  rw [Nat.zero_add]
  exact this
theorem IsToks.kept {w w' : World} {v : Value} {ts : List Tk} (h : IsToks w v ts) (hs : w.heap.size ≤ w'.heap.size) (hb : ∀ g, v.ownBlock = some g → g < w.heap.size → w'.heap[g]? = w.heap[g]?) : IsToks w' v ts := by
  obtain ⟨a, cap, rfl, h2, h3, h4⟩ := h
  refine ⟨a, cap, rfl, h2, h3, fun hn => ?_⟩
  obtain ⟨g, rfl, g3, g4⟩ := h4 hn
  exact ⟨g, rfl, Nat.lt_of_lt_of_le g3 hs, fun i t ht j u hj => (cell_eq (hb g rfl g3)).trans (g4 i t ht j u hj)⟩
/-- Ahead of the region: whose row is whose. -/
structure JA (w : World) (dg : Nat) (vx vy vc : Value) (xs ys cs : List Tk) (W : World) : Prop where
  cell : W.cell? ⟨dg, 0, none⟩ = some (.int .i64 0)
  x : OwnT w.heap.size W vx xs
  dgx : vx.ownBlock ≠ some dg
  y : IsToks W vy ys
  yx : ∀ g, vy.ownBlock = some g → vx.ownBlock ≠ some g
  c : IsToks W vc cs
  bel : Below w.heap.size w W
theorem JA.drew {w W : World} {dg : Nat} {vx vy vc : Value} {xs ys cs : List Tk} (h : JA w dg vx vy vc xs ys cs W) : JA w dg vx vy vc xs ys cs W.drew :=
  ⟨h.cell, h.x.kept fun _ _ => rfl, h.dgx, h.y.kept (Nat.le_refl _) fun _ _ _ => rfl, h.yx, h.c.kept (Nat.le_refl _) fun _ _ _ => rfl, ⟨h.bel.os, h.bel.tape, h.bel.output, h.bel.size, h.bel.block⟩⟩
theorem JA.below {w W W' : World} {dg : Nat} {vx vy vc : Value} {xs ys cs : List Tk} (h : JA w dg vx vy vc xs ys cs W) (b : Below W.heap.size W W') : JA w dg vx vy vc xs ys cs W' :=
  ⟨(b.cell (block_lt_of_cell h.cell)).trans h.cell, h.x.below b, h.dgx, h.y.below b, h.yx, h.c.below b, h.bel.trans (b.mono h.bel.size)⟩
/-- Behind Bare. -/
structure JB (w : World) (dg : Nat) (vx vy vc vz : Value) (xs ys cs zs : List Tk) (W : World) : Prop where
  ja : JA w dg vx vy vc xs ys cs W
  z : IsToks W vz zs
  zx : ∀ g, vz.ownBlock = some g → vx.ownBlock ≠ some g
/-- Behind append. -/
structure JC (w : World) (dg : Nat) (va vz : Value) (zs : List Tk) (W : World) : Prop where
  cell : W.cell? ⟨dg, 0, none⟩ = some (.int .i64 0)
  a : IsToks W va zs
  z : IsToks W vz zs
  bel : Below w.heap.size w W
structure JD (w : World) (dg : Nat) (W : World) : Prop where
  cell : W.cell? ⟨dg, 0, none⟩ = some (.int .i64 0)
  bel : Below w.heap.size w W
theorem JA.bare {w W : World} {dg : Nat} {vx vy vc : Value} {xs ys cs : List Tk} (h : JA w dg vx vy vc xs ys cs W) (hl : cs.length ≤ 100000) :
    Calls Tryd.prog 17 #[vc] W fun e W' => ∃ vz, e = .returned vz ∧ JB w dg vx vy vc vz xs ys cs (cs.map bareT) W' := by
  refine (bare_any vc cs W h.c hl).mono ?_
  rintro e W' ⟨vz, rfl, o, b⟩
  exact ⟨vz, rfl, h.below b, o.toks, fun g hg e => by have h1 := (o.lt g hg).1; have h2 := (h.x.lt g e).2; omega⟩
theorem JB.app {w W W' : World} {dg g cap : Nat} {vy vc vz va : Value} {xs ys cs zs : List Tk} {t : Tk} (h : JB w dg (.slice (some ⟨g, 0, none⟩) (xs ++ [t]).length cap) vy vc vz (xs ++ [t]) ys cs zs W)
    (o : OwnT w.heap.size W' va (xs ++ ys)) (gr : W.grownBy W' (Value.ownBlock (.slice (some ⟨g, 0, none⟩) xs.length cap))) (he : xs ++ ys = zs) : JC w dg va vz zs W' := by
  subst he
  have hg : g < W.heap.size := (h.ja.x.lt g rfl).2
  have hgw : w.heap.size ≤ g := (h.ja.x.lt g rfl).1
  refine ⟨?_, o.toks, h.z.kept gr.size (fun q hq hl => gr.block q hl (fun e => h.zx q hq e.symm)), ?_⟩
  · rw [cell_eq (gr.block dg (block_lt_of_cell h.ja.cell) (fun e => h.ja.dgx e.symm))]; exact h.ja.cell
  · exact ⟨gr.os.trans h.ja.bel.os, gr.tape.trans h.ja.bel.tape, gr.output.trans h.ja.bel.output, Nat.le_trans h.ja.bel.size gr.size, fun i hi => (gr.block i (Nat.lt_of_lt_of_le hi h.ja.bel.size) (fun e => by have : i = g := Option.some.inj e; omega)).trans (h.ja.bel.block i hi)⟩
theorem JC.same {w W : World} {dg : Nat} {va vz : Value} {zs : List Tk} (h : JC w dg va vz zs W) : Calls Tryd.prog 15 #[vz, va] W fun e W' => e = .returned (.bool true) ∧ JD w dg W' := by
  refine (same_yes vz va zs W h.z h.a).mono ?_
  rintro e W' ⟨rfl, n, rfl⟩
  exact ⟨rfl, h.cell, below_drewN h.bel n⟩
theorem JD.awake {w W : World} {dg : Nat} (h : JD w dg W) : Calls Tryd.prog 12 #[] W fun e W' => e = .returned (.bool true) ∧ JD w dg W' := by
  refine (awake_any W).mono ?_
  rintro e W' ⟨rfl, b⟩
  exact ⟨rfl, (b.cell (block_lt_of_cell h.cell)).trans h.cell, h.bel.trans (b.mono h.bel.size)⟩
end Go.Proofs.YtjdmaindoohmkaaDoor.P
