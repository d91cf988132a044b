/-
  The reference's Same and Bare, walked.
-/
import Derived.Test.YtjdmaindoohmkaaDoorPPlaWalk
namespace Go.Proofs.YtjdmaindoohmkaaDoor.P
open Go.RowKit Go.Sort

/-- v is a list of tokens that can be read. -/
def IsToks (w : World) (v : Value) (ts : List Tk) : Prop := ∃ a cap, v = .slice a ts.length cap ∧ ts.length ≤ cap ∧ cap ≤ maxLen ∧ (ts ≠ [] → ∃ g, a = some ⟨g, 0, none⟩ ∧ g < w.heap.size ∧ ∀ i t, ts[i]? = some t → ∀ j u, (tkCells t)[j]? = some u → w.cell? ⟨g, i * 7 + j, none⟩ = some u)
theorem OwnT.toks {base : Nat} {w : World} {v : Value} {ts : List Tk} (h : OwnT base w v ts) : IsToks w v ts := by
  obtain ⟨a, cap, h1, h2, h3, h4⟩ := h.any
  exact ⟨a, cap, h1, h2, h3, fun hn => by obtain ⟨g, g1, _, g3, g4⟩ := h4 hn; exact ⟨g, g1, g3, g4⟩⟩
theorem IsToks.below {w w' : World} {v : Value} {ts : List Tk} (h : IsToks w v ts) (hb : Below w.heap.size w w') : IsToks w' v ts := by
  obtain ⟨a, cap, h1, h2, h3, h4⟩ := h
  exact ⟨a, cap, h1, h2, h3, fun hn => by obtain ⟨g, g1, g3, g4⟩ := h4 hn; exact ⟨g, g1, Nat.lt_of_lt_of_le g3 hb.size, fun i t ht j u hj => (hb.cell (p := ⟨g, i * 7 + j, none⟩) g3).trans (g4 i t ht j u hj)⟩⟩
/-- The seven cells of one token. -/
theorem IsToks.at {w : World} {a : Option Addr} {n cap : Nat} {ts : List Tk} (h : IsToks w (.slice a n cap) ts) {k : Nat} (hk : k < n) :
    ∃ g t, a = some ⟨g, 0, none⟩ ∧ g < w.heap.size ∧ ts[k]? = some t ∧ w.cell? ⟨g, k * 7, none⟩ = some (.int .i64 (t.kind : Nat)) ∧ w.cell? ⟨g, k * 7 + 1, none⟩ = some (.string ⟨t.text.toArray⟩) ∧ w.cell? ⟨g, k * 7 + 2, none⟩ = some (.int .i64 (t.n : Nat)) ∧ w.cell? ⟨g, k * 7 + 3, none⟩ = some (.bool t.same) ∧ w.cell? ⟨g, k * 7 + 4, none⟩ = some (.int .i64 (t.pos : Nat)) ∧ w.cell? ⟨g, k * 7 + 5, none⟩ = some (.int .i64 (t.line : Nat)) ∧ w.cell? ⟨g, k * 7 + 6, none⟩ = some (.int .i64 (t.col : Nat)) := by
  obtain ⟨a', cap', h1, h2, h3, h4⟩ := h
  cases h1
  obtain ⟨t, ht⟩ : ∃ t, ts[k]? = some t := ⟨ts[k], List.getElem?_eq_getElem hk⟩
  obtain ⟨g, rfl, g3, g4⟩ := h4 (fun e => by rw [e] at ht; simp at ht)
  exact ⟨g, t, rfl, g3, ht, g4 k t ht 0 _ rfl, g4 k t ht 1 _ rfl, g4 k t ht 2 _ rfl, g4 k t ht 3 _ rfl, g4 k t ht 4 _ rfl, g4 k t ht 5 _ rfl, g4 k t ht 6 _ rfl⟩
theorem IsToks.form {w : World} {v : Value} {ts : List Tk} (h : IsToks w v ts) : ∃ a cap, v = .slice a ts.length cap ∧ ts.length ≤ cap ∧ cap ≤ maxLen := by
  obtain ⟨a, cap, h1, h2, h3, _⟩ := h
  exact ⟨a, cap, h1, h2, h3⟩
set_option maxHeartbeats 1000000 in
theorem same_yes (v1 v2 : Value) (ts : List Tk) (w : World) (h1 : IsToks w v1 ts) (h2 : IsToks w v2 ts) :
    Calls Tryd.prog 15 #[v1, v2] w fun e w' => e = .returned (.bool true) ∧ ∃ n, w' = w.drewN n := by
  obtain ⟨a1, c1, rfl, l1, m1⟩ := h1.form
  obtain ⟨a2, c2, rfl, l2, m2⟩ := h2.form
  have H1 := Lib.hid h1
  have H2 := Lib.hid h2
  clear h1 h2
  unfold maxLen at m1 m2
  generalize hn : ts.length = n at *
  clear hn
  go_enter Tryd.func15, Tryd.ntmps15
  go_wp2_with fail
  go_loopw [5] (fun i wr => ∃ k : Nat, k ≤ n ∧ i = .int .i64 k ∧ ∃ m, wr = w.drewN m) (fun i _ => n - (intOf i).toNat)
  case atStart => exact ⟨0, Nat.zero_le _, rfl, 0, rfl⟩
  case round =>
    obtain ⟨k, hk, rfl, m, rfl⟩ := hrel
    by_cases hlt : k < n
    · obtain ⟨g, t, rfl, hg, ht, q0, q1, q2, q3, q4, q5, q6⟩ := H1.out.at hlt
      obtain ⟨g', t', rfl, hg', ht', r0, r1, r2, r3, r4, r5, r6⟩ := H2.out.at hlt
      obtain rfl : t = t' := Option.some.inj (ht.symm.trans ht')
      clear ht ht'
      go_wp2_with fail
      go_quiet (fail)
      go_wp2_with fail
      go_roundw
      case rel => exact ⟨k + 1, by omega, by go_num, _, rfl⟩
      case measure => simp [intOf]; omega
    · go_wp2_with fail
      go_ret
      exact ⟨rfl, m, rfl⟩
/-- What Bare leaves. -/
def BarePost (ts : List Tk) (w : World) (e : Ending) (w' : World) : Prop := ∃ v, e = .returned v ∧ OwnT w.heap.size w' v (ts.map bareT) ∧ Below w.heap.size w w'
theorem map_take_succ {ts : List Tk} {k : Nat} {t : Tk} (h : ts[k]? = some t) : (ts.take (k + 1)).map bareT = (ts.take k).map bareT ++ [bareT t] := by
  rw [List.take_add_one, h, List.map_append]; rfl
theorem grown_below {w0 w w' : World} {v : Value} {ts : List Tk} (h : Below w0.heap.size w0 w) (ho : OwnT w0.heap.size w v ts) (hg : w.grownBy w' v.ownBlock) : Below w0.heap.size w0 w' :=
  ⟨hg.os.trans h.os, hg.tape.trans h.tape, hg.output.trans h.output, Nat.le_trans h.size hg.size, fun i hi => (hg.block i (Nat.lt_of_lt_of_le hi h.size) (fun e => by have := (ho.lt i e.symm).1; omega)).trans (h.block i hi)⟩
theorem wp_appQ {ops : Array Oper} {rest : List Oper} {o : Oper} {a : Act} {Q : Exit → Act → World → Prop} (hgd : o.guard = none) (sl x : Operand)
    (ho : o.op = .call { callee := .builtin .append, args := #[sl, x], argTypes := #[23, 23] })
    {base q : Nat} {w : World} {v : Value} {ts : List Tk} (t : Tk) (cs : Array Value) (hcs : cs.toList = tkCells t) (h : OwnT base w v ts) (hbase : base ≤ w.heap.size) (hs : a.eval sl = v) (hx : a.eval x = .slice (some ⟨q, 0, none⟩) 1 1) (hq : q = w.heap.size) (hb : ts.length ≤ 100000)
    (hk : ∀ v' w', OwnT base w' v' (ts ++ [t]) → (w.alloc (.cells cs 38)).grownBy w' v.ownBlock → wpList Tryd.prog ops Q rest (a.put o.dst v') w') :
    wpList Tryd.prog ops Q (o :: rest) a (w.alloc (.cells cs 38)) := wp_appT hgd sl x ho t cs hcs h hbase hs (by rw [← hq]; exact hx) hb hk
set_option maxRecDepth 20000 in
set_option maxHeartbeats 1000000 in
theorem bare_any (v : Value) (ts : List Tk) (w : World) (h : IsToks w v ts) (hl : ts.length ≤ 100000) : Calls Tryd.prog 17 #[v] w (BarePost ts w) := by
  obtain ⟨a1, c1, rfl, l1, m1⟩ := h.form
  have H1 := Lib.hid h
  clear h
  unfold maxLen at m1
  generalize hn : ts.length = n at *
  have HN := Lib.hid hn
  clear hn
  go_enter Tryd.func17, Tryd.ntmps17
  go_wp2_with fail
  go_loopw [3, 4] (fun x i wr => ∃ k : Nat, k ≤ n ∧ i = .int .i64 k ∧ OwnT w.heap.size wr x ((ts.take k).map bareT) ∧ Below w.heap.size w wr) (fun _ i _ => n - (intOf i).toNat)
  case atStart => exact ⟨0, Nat.zero_le _, rfl, OwnT.nil _ _, Below.refl _ _⟩
  case round =>
    obtain ⟨k, hk, rfl, ho, hb⟩ := hrel
    have O := Lib.hid ho
    have B := Lib.hid hb
    clear ho hb
    by_cases hlt : k < n
    · obtain ⟨g, t, rfl, hg, ht, q0, q1, q2, q3, q4, q5, q6⟩ := (H1.out.below B.out).at hlt
      have MT := Lib.hid (map_take_succ ht)
      have hal : ((ts.take k).map bareT).length ≤ 100000 := by rw [List.length_map, List.length_take]; omega
      clear ht
      have O1 := Lib.hid (O.out.below ((Below.refl _ _).alloc (Nat.le_refl _) (.cells #[.int .i64 (t.kind : Nat), .string ⟨t.text.toArray⟩, .int .i64 (t.n : Nat), .bool false, .int .i64 0, .int .i64 0, .int .i64 0] 38)))
      have B1 := Lib.hid (B.out.alloc B.out.size (.cells #[.int .i64 (t.kind : Nat), .string ⟨t.text.toArray⟩, .int .i64 (t.n : Nat), .bool false, .int .i64 0, .int .i64 0, .int .i64 0] 38))
      have hz := B1.out.size
      have tok1 : True := trivial
      go_wp2_with (have _t := tok1; at_builtin; refine wp_appQ rfl (.tmp 19) (.tmp 21) rfl (bareT t) #[.int .i64 (t.kind : Nat), .string ⟨t.text.toArray⟩, .int .i64 (t.n : Nat), .bool false, .int .i64 0, .int .i64 0, .int .i64 0] rfl O1.out hz rfl rfl (by simp) hal ?_; intro v7 w7 o7 g7; have O7 := Lib.hid o7; have B7 := Lib.hid (grown_below (B1.out.alloc B1.out.size _) (O1.out.below ((Below.refl _ _).alloc (Nat.le_refl _) _)) g7); clear o7 g7 tok1)
      go_roundw
      case rel => exact ⟨k + 1, by omega, by go_num, by rw [MT.out]; exact O7.out, B7.out⟩
      case measure => simp [intOf]; omega
    · go_wp2_with fail
      go_ret
      refine ⟨_, rfl, ?_, B.out⟩
      have := O.out
      rw [List.take_of_length_le (by rw [HN.out]; omega)] at this
      exact this
end Go.Proofs.YtjdmaindoohmkaaDoor.P
