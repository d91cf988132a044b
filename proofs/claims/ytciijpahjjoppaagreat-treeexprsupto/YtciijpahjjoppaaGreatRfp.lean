/-
  A list of texts of one's own that grows; parts, step by step.
-/
import Derived.Test.YtciijpahjjoppaaGreatRfn
import Derived.Deep.MidRow
namespace Go.Proofs.YtciijpahjjoppaaGreat
open Go.RowKit Go.Maps

theorem OwnS.mono {b b' : Nat} {w : World} {v : Value} {ss : List ByteArray} (h : OwnS b w v ss) (hb : b' ≤ b) : OwnS b' w v ss := by
  refine ⟨h.1, ?_⟩
  rcases h.2 with h4 | ⟨g, cap, cur, hv, hb', r⟩
  · exact .inl h4
  · exact .inr ⟨g, cap, cur, hv, Nat.le_trans hb hb', r⟩
theorem run_appS {base : Nat} {w : World} {v : Value} {ss : List ByteArray} (ty : TypeId) (h : OwnS base w v ss) (hbase : base ≤ w.heap.size) {a : Option Addr} {len cap : Nat} {ls : List ByteArray} (hl : IsStrs w a len cap ls) (hb : ss.length + len ≤ 4000000) :
    ∃ v' w', (Builtin.append_ #[29, 29] ty #[v, .slice a len cap]).run Tryz.prog w = .ok v' w' ∧ OwnS base w' v' (ss ++ ls) ∧ w.grownBy w' v.ownBlock := by
  obtain ⟨i, hi, hz0, hz1, hz2⟩ := info_parts info9
  have go : ∀ ad : Addr, a = some ad → (∀ (j : Nat) u, (ls.map Value.string)[j]? = some u → w.cell? (ad.add j) = some u) → ∃ v' w', (Builtin.append_ #[29, 29] ty #[v, .slice a len cap]).run Tryz.prog w = .ok v' w' ∧ OwnS base w' v' (ss ++ ls) ∧ w.grownBy w' v.ownBlock := by
    intro ad e hn
    subst e
    obtain ⟨v', w', h1, h2, h3, _, h5⟩ := run_append_own_at (P := Tryz.prog) w base 29 ty 9 i (.string ⟨#[]⟩) 1 16 Tryz.underlying29 hi hz0 hz1 hz2 rfl (by decide) v ss.length (ss.map Value.string) h ad len cap (ls.map Value.string) (by rw [List.length_map, hl.1]; omega) hn (by simp [Value.oneCell']) (by unfold maxLen; omega) (by omega) hbase
    refine ⟨v', w', h1, ?_, h3⟩
    unfold OwnS
    rw [List.length_append, hl.1, List.map_append]
    exact h2
  cases a with
  | none =>
    have h0 : len = 0 := by
      rcases hl.2.2.2.2 with h0 | ⟨b, o, e, _⟩
      · exact h0
      · cases e
    subst h0
    have : ls = [] := List.eq_nil_of_length_eq_zero hl.1
    subst this
    refine ⟨v, w, ?_, by rw [List.append_nil]; exact h, ⟨rfl, rfl, rfl, Nat.le_refl _, fun _ _ _ => rfl⟩⟩
    rcases h.2 with ⟨rfl, _⟩ | ⟨g, c, cur, rfl, _, _, hnc, _⟩
    · simp [Builtin.append_, run_underlying Tryz.underlying29, sizeOf, typeInfo, hi, Builtin.lenOf, Builtin.firstCells]
    · simp [Builtin.append_, run_underlying Tryz.underlying29, sizeOf, typeInfo, hi, Builtin.lenOf, Builtin.firstCells, hnc, storeCells]
  | some ad =>
    refine go ad rfl ?_
    intro j u hu
    rcases hl.2.2.2.2 with h0 | ⟨b, o, e, _, hc⟩
    · have : ls = [] := List.eq_nil_of_length_eq_zero (hl.1.trans h0)
      subst this
      simp at hu
    · cases e
      rw [Addr.add_mid]
      rw [List.getElem?_map] at hu
      cases hj : ls[j]? with
      | none => rw [hj] at hu; simp at hu
      | some z => rw [hj] at hu; simp at hu; rw [← hu]; exact hc j z hj
theorem wp_appS {ops : Array Oper} {rest : List Oper} {o : Oper} {a : Act} {Q : Exit → Act → World → Prop} (hgd : o.guard = none) (sl x : Operand)
    (ho : o.op = .call { callee := .builtin .append, args := #[sl, x], argTypes := #[29, 29] })
    {base : Nat} {w : World} {v : Value} {ss : List ByteArray} (h : OwnS base w v ss) (hbase : base ≤ w.heap.size) {ad : Option Addr} {len cap : Nat} {ls : List ByteArray} (hl : IsStrs w ad len cap ls) (hs : a.eval sl = v) (hx : a.eval x = .slice ad len cap) (hb : ss.length + len ≤ 4000000)
    (hk : ∀ v' w', OwnS base w' v' (ss ++ ls) → w.grownBy w' v.ownBlock → wpList Tryz.prog ops Q rest (a.put o.dst v') w') :
    wpList Tryz.prog ops Q (o :: rest) a w := by
  refine wpList_plain hgd fun K hK => ?_
  obtain ⟨v', w', hr, h2, h3⟩ := run_appS o.type h hbase hl hb
  unfold Oper.wp execOp
  simp only [ho, resolve, invoke, builtin, Sem.run_bind, Sem.run_pure, Result.andThen_ok, List.map_toArray, List.map_cons, List.map_nil, hs, hx, hr]
  exact hK _ _ (hk v' w' h2 h3)

theorem splitD_at : ∀ (k : Nat) (l : List UInt8), l[k]? = some 36 → (∀ j, j < k → l[j]? ≠ some 36) → splitD l = l.take k :: splitD (l.drop (k + 1))
  | _, [], h, _ => by simp at h
  | 0, c :: r, h, _ => by
    obtain rfl : c = 36 := by simpa using h
    simp [splitD]
  | k + 1, c :: r, h, hn => by
    have hc : c ≠ 36 := fun e => hn 0 (by omega) (by simp [e])
    have ih := splitD_at k r (by simpa using h) (fun j hj => by simpa using hn (j + 1) (by omega))
    rw [splitD, if_neg hc, ih]
    simp
theorem splitD_none : ∀ (l : List UInt8), (∀ j : Nat, l[j]? ≠ some 36) → splitD l = [l]
  | [], _ => rfl
  | c :: r, hn => by
    have hc : c ≠ 36 := fun e => hn 0 (by simp [e])
    rw [splitD, if_neg hc, splitD_none r (fun j => by simpa using hn (j + 1))]
end Go.Proofs.YtciijpahjjoppaaGreat
