/-
  Lists of tokens of one's own.
-/
import Derived.Test.YtjdmaindoohmkaaDoorPSj
import Derived.Laws.AppendOwn
import Derived.OwnWalk
namespace Go.Proofs.YtjdmaindoohmkaaDoor.P
open Go.RowKit Go.Sort

def tkCells (t : Tk) : List Value := [.int .i64 (t.kind : Nat), .string ⟨t.text.toArray⟩, .int .i64 (t.n : Nat), .bool t.same, .int .i64 (t.pos : Nat), .int .i64 (t.line : Nat), .int .i64 (t.col : Nat)]
def tkAll (ts : List Tk) : List Value := ts.flatMap tkCells
theorem tkCells_len (t : Tk) : (tkCells t).length = 7 := rfl
theorem tkAll_snoc (ts : List Tk) (t : Tk) : tkAll (ts ++ [t]) = tkAll ts ++ tkCells t := by simp [tkAll]
theorem tkAll_len (ts : List Tk) : (tkAll ts).length = ts.length * 7 := by
  induction ts with
  | nil => rfl
  | cons t r ih => rw [show tkAll (t :: r) = tkCells t ++ tkAll r from rfl, List.length_append, ih, tkCells_len, List.length_cons]; omega
theorem tkAll_at (ts : List Tk) (i j : Nat) (t : Tk) (h : ts[i]? = some t) (hj : j < 7) : (tkAll ts)[i * 7 + j]? = (tkCells t)[j]? := by
  induction ts generalizing i with
  | nil => simp at h
  | cons x r ih =>
    rw [show tkAll (x :: r) = tkCells x ++ tkAll r from rfl]
    cases i with
    | zero =>
      simp at h
      subst h
      rw [List.getElem?_append_left (by rw [tkCells_len]; omega)]
      congr 1
      omega
    | succ i =>
      rw [List.getElem?_append_right (by rw [tkCells_len]; omega), tkCells_len, show (i + 1) * 7 + j - 7 = i * 7 + j by omega]
      exact ih i (by simpa using h)
/-- v is a list of tokens of one's own, from the block 'base' on. -/
def OwnT (base : Nat) (w : World) (v : Value) (ts : List Tk) : Prop := w.ownsRow base 38 7 v ts.length (tkAll ts)
theorem OwnT.nil (base : Nat) (w : World) : OwnT base w (.slice none 0 0) [] := World.ownsRow_nil _ _ _ _
theorem OwnT.lt {base : Nat} {w : World} {v : Value} {ts : List Tk} (h : OwnT base w v ts) (k : Nat) (hk : v.ownBlock = some k) : base ≤ k ∧ k < w.heap.size := World.ownsRow.lt h k hk
theorem OwnT.kept {base : Nat} {w w' : World} {v : Value} {ts : List Tk} (h : OwnT base w v ts) (hb : ∀ k, v.ownBlock = some k → w'.heap[k]? = w.heap[k]?) : OwnT base w' v ts := by
  refine ⟨h.1, ?_⟩
  rcases h.2 with h4 | ⟨g, cap, cur, hv, hb', hg, r⟩
  · exact .inl h4
  · exact .inr ⟨g, cap, cur, hv, hb', (hb g (by rw [hv]; rfl)).trans hg, r⟩
theorem OwnT.below {base : Nat} {w w' : World} {v : Value} {ts : List Tk} (h : OwnT base w v ts) (hb : Below w.heap.size w w') : OwnT base w' v ts :=
  h.kept fun k hk => hb.block k (h.lt k hk).2
theorem OwnT.only {base c : Nat} {w w' : World} {v : Value} {ts : List Tk} (h : OwnT base w v ts) (hc : c < base) (hb : Only c w w') : OwnT base w' v ts :=
  h.kept fun k hk => hb.block k (by have := (h.lt k hk).1; omega) (h.lt k hk).2
theorem OwnT.mono {b b' : Nat} {w : World} {v : Value} {ts : List Tk} (h : OwnT b w v ts) (hb : b' ≤ b) : OwnT b' w v ts := by
  refine ⟨h.1, ?_⟩
  rcases h.2 with h4 | ⟨g, cap, cur, hv, hb', r⟩
  · exact .inl h4
  · exact .inr ⟨g, cap, cur, hv, Nat.le_trans hb hb', r⟩
/-- The slice, and where its cells lie. -/
theorem OwnT.slice {base : Nat} {w : World} {v : Value} {ts : List Tk} (h : OwnT base w v ts) : (v = .slice none 0 0 ∧ ts = []) ∨ ∃ g cap, v = .slice (some ⟨g, 0, none⟩) ts.length cap ∧ base ≤ g ∧ g < w.heap.size ∧ ts.length ≤ cap ∧ cap ≤ maxLen ∧ ∀ i t, ts[i]? = some t → ∀ j u, (tkCells t)[j]? = some u → w.cell? ⟨g, i * 7 + j, none⟩ = some u := by
  rcases h.2 with ⟨rfl, h4⟩ | ⟨g, cap, cur, rfl, hb, hg, hn, hm, hs, ht⟩
  · exact .inl ⟨rfl, List.eq_nil_of_length_eq_zero h4⟩
  · refine .inr ⟨g, cap, rfl, hb, heap_lt hg, hn, hm, fun i t hi j u hj => ?_⟩
    have hj7 : j < 7 := by have := (List.getElem?_eq_some_iff.1 hj).1; rw [tkCells_len] at this; exact this
    have hil : i < ts.length := (List.getElem?_eq_some_iff.1 hi).1
    have h1 := tkAll_at ts i j t hi hj7
    rw [hj, ← ht, List.getElem?_take_of_lt (by omega)] at h1
    unfold World.cell?
    simp only [hg]
    simpa using h1
theorem info38 : (Tryd.prog.info? 38).map (fun i => (i.zero, i.size, i.bytes)) = some (some (.agg #[.int .i64 0, .string ⟨#[]⟩, .int .i64 0, .bool false, .int .i64 0, .int .i64 0, .int .i64 0]), 7, 64) := by kernel_rfl
theorem add_mid2 (b o j : Nat) : (⟨b, o, none⟩ : Addr).add j = ⟨b, o + j, none⟩ := by unfold Addr.add; split <;> simp_all
theorem run_appT {base : Nat} {w : World} {v : Value} {ts : List Tk} (ty : TypeId) (h : OwnT base w v ts) (hbase : base ≤ w.heap.size) {b o m cap : Nat} {ns : List Tk}
    (hm : ns.length = m) (hn : ∀ j u, (tkAll ns)[j]? = some u → w.cell? ⟨b, o + j, none⟩ = some u) (hb : ts.length + m ≤ 1000000) :
    ∃ v' w', (Builtin.append_ #[23, 23] ty #[v, .slice (some ⟨b, o, none⟩) m cap]).run Tryd.prog w = .ok v' w' ∧ OwnT base w' v' (ts ++ ns) ∧ w.grownBy w' v.ownBlock := by
  obtain ⟨i, hi, hz0, hz1, hz2⟩ := info_parts info38
  obtain ⟨v', w', h1, h2, h3, _⟩ := run_append_own (P := Tryd.prog) w base 23 ty 38 i _ 7 64 Tryd.underlying23 hi hz0 hz1 hz2 rfl (by decide) v ts.length (tkAll ts) h ⟨b, o, none⟩ m cap (tkAll ns) (by rw [tkAll_len, hm]) (fun j u hu => by rw [add_mid2]; exact hn j u hu) (by
    intro u hu
    unfold tkAll at hu
    obtain ⟨t, _, ht⟩ := List.mem_flatMap.1 hu
    simp only [tkCells, List.mem_cons, List.mem_nil_iff, or_false] at ht
    rcases ht with rfl | rfl | rfl | rfl | rfl | rfl | rfl <;> rfl) (by unfold maxLen; omega) (by omega) hbase
  refine ⟨v', w', h1, ?_, h3⟩
  unfold OwnT
  rw [List.length_append, hm, show tkAll (ts ++ ns) = tkAll ts ++ tkAll ns by simp [tkAll]]
  exact h2
theorem wp_appT {ops : Array Oper} {rest : List Oper} {o : Oper} {a : Act} {Q : Exit → Act → World → Prop} (hgd : o.guard = none) (sl x : Operand)
    (ho : o.op = .call { callee := .builtin .append, args := #[sl, x], argTypes := #[23, 23] })
    {base : Nat} {w : World} {v : Value} {ts : List Tk} (t : Tk) (cs : Array Value) (hcs : cs.toList = tkCells t) (h : OwnT base w v ts) (hbase : base ≤ w.heap.size) (hs : a.eval sl = v) (hx : a.eval x = .slice (some ⟨w.heap.size, 0, none⟩) 1 1) (hb : ts.length ≤ 100000)
    (hk : ∀ v' w', OwnT base w' v' (ts ++ [t]) → (w.alloc (.cells cs 38)).grownBy w' v.ownBlock → wpList Tryd.prog ops Q rest (a.put o.dst v') w') :
    wpList Tryd.prog ops Q (o :: rest) a (w.alloc (.cells cs 38)) := by
  refine wpList_plain hgd fun K hK => ?_
  obtain ⟨v', w', hr, h2, h3⟩ := run_appT (w := w.alloc (.cells cs 38)) o.type (h.below ((Below.refl _ _).alloc (Nat.le_refl _) _)) (by simp; omega) (b := w.heap.size) (o := 0) (m := 1) (cap := 1) (ns := [t]) rfl (fun j u hu => by
    have e := heap_new w (.cells cs 38)
    rw [show tkAll [t] = tkCells t by simp [tkAll], ← hcs] at hu
    unfold World.cell?
    simp only [e]
    simpa using hu) (by omega)
  unfold Oper.wp execOp
  simp only [ho, resolve, invoke, builtin, Sem.run_bind, Sem.run_pure, Result.andThen_ok, List.map_toArray, List.map_cons, List.map_nil, hs, hx, hr]
  exact hK _ _ (hk v' w' h2 h3)

def diagV (s : ByteArray) (r : Res) : Value := .agg #[.int .i64 (r.code : Nat), .int .i64 (r.pos : Nat), .int .i64 (lineOf s r.pos : Nat), .int .i64 (colOf s r.pos : Nat)]
/-- The state of a loop over tokens. -/
structure LS (w : World) (p c : Nat) (s : ByteArray) (k : Nat) (v : Value) (acc : List Tk) (wr : World) : Prop where
  sc : ScAt wr p c s k
  own : OwnT (w.heap.size + 1) wr v acc
  dz : wr.heap[w.heap.size]? = some (.cells #[.int .i64 0, .int .i64 0, .int .i64 0, .int .i64 0] 28)
  only : Only c w wr
  pl : p < w.heap.size
  cl : c < w.heap.size
theorem LS.next {w wr w2 : World} {p c k j : Nat} {s : ByteArray} {v : Value} {acc : List Tk} (h : LS w p c s k v acc wr) (o : Only c wr w2) (cu : CurAt w2 c s j) : LS w p c s j v acc w2 :=
  ⟨h.sc.only o cu, h.own.only (by have := h.cl; omega) o, (o.block _ (by have := h.cl; omega) (heap_lt h.dz)).trans h.dz, h.only.trans o, h.pl, h.cl⟩
theorem LS.below {w wr w2 : World} {p c k : Nat} {s : ByteArray} {v : Value} {acc : List Tk} (h : LS w p c s k v acc wr) (b : Below wr.heap.size wr w2) : LS w p c s k v acc w2 :=
  ⟨h.sc.below b, h.own.below b, (b.block _ (heap_lt h.dz)).trans h.dz, h.only.belowR b, h.pl, h.cl⟩
theorem LS.app {w wr w2 : World} {p c k : Nat} {s : ByteArray} {v v' : Value} {acc acc' : List Tk} (h : LS w p c s k v acc wr) (g : wr.grownBy w2 v.ownBlock) (o : OwnT (w.heap.size + 1) w2 v' acc') : LS w p c s k v' acc' w2 := by
  have hne : ∀ b, b < w.heap.size + 1 → some b ≠ v.ownBlock := fun b hb e => by have := (h.own.lt b e.symm).1; omega
  have hp := h.pl
  have hc := h.cl
  refine ⟨⟨h.sc.cur.stays (g.block c h.sc.cur.lt (hne c (by omega))), (g.block p h.sc.lt (hne p (by omega))).trans h.sc.blk, h.sc.ne⟩, o, (g.block _ (heap_lt h.dz) (hne _ (by omega))).trans h.dz, ?_, hp, hc⟩
  exact ⟨g.os.trans h.only.os, g.tape.trans h.only.tape, g.output.trans h.only.output, Nat.le_trans h.only.size g.size, fun b hb hs => (g.block b (Nat.lt_of_lt_of_le hs h.only.size) (hne b (by omega))).trans (h.only.block b hb hs)⟩
theorem LS.dzf {w wr : World} {p c k : Nat} {s : ByteArray} {v : Value} {acc : List Tk} (h : LS w p c s k v acc wr) : wr.cell? ⟨w.heap.size, 0, none⟩ = some (.int .i64 0) ∧ wr.cell? ⟨w.heap.size, 1, none⟩ = some (.int .i64 0) ∧ wr.cell? ⟨w.heap.size, 2, none⟩ = some (.int .i64 0) ∧ wr.cell? ⟨w.heap.size, 3, none⟩ = some (.int .i64 0) ∧ ∀ o, wr.frozen? ⟨w.heap.size, o, none⟩ = false := by
  have := h.dz
  refine ⟨?_, ?_, ?_, ?_, fun o => ?_⟩ <;> simp [World.cell?, World.frozen?, this]
/-- What Tokens leaves. -/
def ToksPost (c : Nat) (s : ByteArray) (r : Res) (w : World) (e : Ending) (w' : World) : Prop := ∃ v, e = .returned (.tuple #[v, diagV s r]) ∧ OwnT w.heap.size w' v r.toks ∧ Only c w w'
end Go.Proofs.YtjdmaindoohmkaaDoor.P
