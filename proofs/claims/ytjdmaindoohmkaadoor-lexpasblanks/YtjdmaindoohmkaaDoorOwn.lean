/-
  A list of bytes of the call's own that grows, in one word.
-/
import Derived.Test.YtjdmaindoohmkaaDoorBld
import Derived.Laws.AppendOwn
import Derived.Laws.BytesArg
import Derived.OwnWalk
namespace Go.Proofs.YtjdmaindoohmkaaDoor
open Go.RowKit

theorem info5 : (Tryd.prog.info? 5).map (fun i => (i.zero, i.size, i.bytes)) = some (some (.int .u8 0), 1, 1) := by kernel_rfl
/-- v is a list of the call's own that holds acc; below w0's end all is as in w0. -/
structure Own (w0 : World) (v : Value) (acc : List UInt8) (wr : World) : Prop where
  own : wr.ownsRow w0.heap.size 5 1 v acc.length (Lib.byteCells acc)
  bel : Below w0.heap.size w0 wr
theorem Own.nil (w0 : World) : Own w0 (.slice none 0 0) [] w0 := ⟨World.ownsRow_nil _ _ _ _, Below.refl _ _⟩
theorem Own.val {w0 wr : World} {v : Value} {acc : List UInt8} (h : Own w0 v acc wr) : (v = .slice none 0 0 ∧ acc = []) ∨ ∃ g cap, v = .slice (some ⟨g, 0, none⟩) acc.length cap := by
  rcases h.own.2 with ⟨h1, h2⟩ | ⟨g, cap, _, h1, _⟩
  · exact .inl ⟨h1, List.eq_nil_of_length_eq_zero h2⟩
  · exact .inr ⟨g, cap, h1⟩
theorem below_grown {w0 w w' : World} {row : Option Nat} (h : Below w0.heap.size w0 w) (hg : w.grownBy w' row) (hrow : ∀ k, row = some k → w0.heap.size ≤ k) : Below w0.heap.size w0 w' :=
  ⟨hg.os.trans h.os, hg.tape.trans h.tape, hg.output.trans h.output, Nat.le_trans h.size hg.size, fun i hi => (hg.block i (Nat.lt_of_lt_of_le hi h.size) (fun e => by have := hrow i e.symm; omega)).trans (h.block i hi)⟩
theorem wp_app {ops : Array Oper} {rest : List Oper} {o : Oper} {a : Act} {Q : Exit → Act → World → Prop} (hgd : o.guard = none) (s x : Operand)
    (ho : o.op = .call { callee := .builtin .append, args := #[s, x], argTypes := #[34, 34] })
    {w0 wr : World} {v : Value} {acc : List UInt8} (cs : Array Value) (news : List UInt8) (m : Nat) (hcs : cs.toList = Lib.byteCells news) (hm : news.length = m)
    (h : Own w0 v acc wr) (hs : a.eval s = v) (hx : a.eval x = .slice (some ⟨wr.heap.size, 0, none⟩) m m) (hl : acc.length ≤ 1000000) (hm2 : m ≤ 10)
    (hk : ∀ v' w', Own w0 v' (acc ++ news) w' → wpList Tryd.prog ops Q rest (a.put o.dst v') w') : wpList Tryd.prog ops Q (o :: rest) a (wr.alloc (.cells cs 5)) := by
  obtain ⟨i, hi, hz0, hz1, hz2⟩ := info_parts info5
  refine wpList_append_own _ hgd s x 34 ho w0.heap.size 5 i (.int .u8 0) 1 1 Tryd.underlying34 hi hz0 hz1 hz2 rfl (by decide) v acc.length (Lib.byteCells acc) hs (h.own.alloc _) ⟨wr.heap.size, 0, none⟩ m m (Lib.byteCells news) hx (by rw [Lib.byteCells_length]; omega) ?_ ?_ (by unfold maxLen; omega) (by omega) (by have := h.bel.size; simp; omega) ?_
  · intro j u hu
    have e : (⟨wr.heap.size, 0, none⟩ : Addr).add j = ⟨wr.heap.size, j, none⟩ := by unfold Addr.add; split <;> simp_all
    rw [e, cell_new, ← hu, ← hcs]
    simp
  · intro u hu
    simp only [Lib.byteCells, List.mem_map] at hu
    obtain ⟨b, _, rfl⟩ := hu
    rfl
  · intro v' w' h2 h3 _
    refine hk v' w' ⟨?_, below_grown (h.bel.alloc h.bel.size _) h3 (fun k hk2 => ((h.own.lt k hk2).1))⟩
    rw [Lib.byteCells_append, List.length_append, hm]
    exact h2
theorem Own.conv {w0 wr : World} {v : Value} {acc : List UInt8} (h : Own w0 v acc wr) : (convert 34 9 v).run Tryd.prog wr = .ok (.string ⟨acc.toArray⟩) wr := by
  rcases h.own.2 with ⟨rfl, h2⟩ | ⟨g, cap, cur, rfl, _, hg, _, _, _, hcur⟩
  · have : acc = [] := List.eq_nil_of_length_eq_zero h2
    subst this
    exact run_convert_bytes_nil wr 34 5 Tryd.underlying34 Tryd.underlying5 0 0 9 Tryd.underlying9
  · have e : strOfNums (acc.map fun b => (b.toNat : Int)) = ⟨acc.toArray⟩ := by
      unfold strOfNums
      rw [List.map_map]
      congr 2
      simp [Function.comp_def]
    rw [← e]
    refine run_convert_bytes_arg wr 34 5 Tryd.underlying34 Tryd.underlying5 g 0 acc.length cap (acc.map fun b => (b.toNat : Int)) (by simp) ?_ 9 Tryd.underlying9
    intro i hi
    have h3 : cur.toList[i]? = (Lib.byteCells acc)[i]? := by rw [← hcur, List.getElem?_take]; simp [hi]
    unfold World.cell?
    simp only [hg, Nat.zero_add]
    have h4 : cur[i]? = (Lib.byteCells acc)[i]? := by rw [← h3]; simp
    simp [h4, Lib.byteCells, List.getElem?_eq_getElem hi, List.getD]
end Go.Proofs.YtjdmaindoohmkaaDoor
