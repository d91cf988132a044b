/-
  The function in the field that gathers names (Names' own): walked.
-/
import Derived.Test.YtciijpahjjoppaaGreatNmw
import Derived.Maps.OwnSet
import Derived.Laws.AppendOwn
namespace Go.Proofs.YtciijpahjjoppaaGreat
open Go.RowKit Go.Shelf Go.Deep Go.Maps

def keyL (s : ByteArray) : Lit := .string s.data.toList
theorem keyL_inj {a b : ByteArray} (h : keyL a = keyL b) : a = b := by
  unfold keyL at h
  exact ByteArray.ext (Array.ext' (Lit.string.inj h))
theorem sameKey_keyL (a b : ByteArray) : (keyL a).sameKey (keyL b) = (a.toList == b.toList) := by
  rw [Bool.eq_iff_iff, beq_iff]
  refine ⟨fun h => keyL_inj (WideAt.sameKey_eq h), fun h => ?_⟩
  subst h
  simp [keyL, Lit.sameKey]
def setD (l : List ByteArray) : DataW Unit := Maps.setOf (.agg []) (l.map keyL)
theorem setD_nil : setD [] = .map [] := rfl
theorem setD_snoc (l : List ByteArray) (x : ByteArray) : setD (l ++ [x]) = (setD l).put (keyL x) (.agg []) := by
  unfold setD
  rw [List.map_append, List.map_singleton, setOf_snoc]
theorem has_setD (l : List ByteArray) (s : ByteArray) : Maps.has (setD l) (keyL s) = isIn s l := by
  unfold setD isIn
  rw [has_setOf _ _ _ (fun y hy => by obtain ⟨_, _, rfl⟩ := List.mem_map.1 hy; trivial), List.any_map]
  congr 1
  funext y
  exact sameKey_keyL y s
theorem law9 : Keyed Tryz.prog 9 := string_keyed Tryz.underlying9
theorem zero93 (w : World) : (zeroValue 93).run Tryz.prog w = .ok (.agg #[]) w := by kernel_rfl
theorem under92 : Tryz.prog.underlying 92 = some (.map 9 93) := by kernel_rfl
theorem key9 {s : ByteArray} (hs : s.size ≤ maxLen) : keyOf Tryz.prog 9 (.string s) = some (keyL s) := WideMaps.keyOf_string_mk Tryz.underlying9 hs
abbrev SetAt (w : World) (B n : Nat) (D : DataW Unit) : Prop := w.ownsMap Tryz.prog 9 unitElem B n D
theorem ownsMap_same {H : Type} {P : Program} {k : TypeId} {R : Value → Option (DataW H × List MemPlace)} {b n : Nat} {D : DataW H} {w w' : World} (h : w.ownsMap P k R b n D) (hb : w'.heap[b]? = w.heap[b]?) : w'.ownsMap P k R b n D := by
  unfold World.ownsMap at *
  rw [hb]
  exact h

theorem map_not_cells {H : Type} {P : Program} {k : TypeId} {R : Value → Option (DataW H × List MemPlace)} {b n : Nat} {D : DataW H} {w : World} (h : w.ownsMap P k R b n D) {cs : Array Value} {t : TypeId} {fz : Nat × Nat} (hc : w.heap[b]? = some (.cells cs t fz)) : False := by
  unfold World.ownsMap at h
  obtain ⟨es, clock, h1, _⟩ := h
  rw [hc] at h1
  cases h1
structure NamesI (b0 n : Nat) (s : List ByteArray) (w : World) : Prop where
  sz : b0 + 4 ≤ w.heap.size
  len : s.length + n ≤ 3000000
  small : ∀ y ∈ s, y.size ≤ lim
  set : SetAt w (b0 + 1) s.length (setD s)
  bq : Boxed w (b0 + 2) 92 (.map (some (b0 + 1)))
  row : ∃ v, Boxed w b0 29 v ∧ w.ownsRow b0 9 1 v s.length (s.map Value.string)
def NamesO (b0 : Nat) (w : World) (b : Nat) : Prop := b = b0 ∨ b = b0 + 1 ∨ b = b0 + 2 ∨ ∃ v, Boxed w b0 29 v ∧ v.ownBlock = some b
theorem Boxed.uniq {w : World} {b : Nat} {t : TypeId} {v v' : Value} (h : Boxed w b t v) (h' : Boxed w b t v') : v = v' := by
  have e := h.symm.trans h'
  simpa using e
theorem NamesI.ltO {b0 n : Nat} {s : List ByteArray} {w : World} {b : Nat} (h : NamesI b0 n s w) (hb : NamesO b0 w b) : b0 ≤ b ∧ b < w.heap.size := by
  have hz := h.sz
  rcases hb with rfl | rfl | rfl | ⟨v, h1, h2⟩
  · omega
  · omega
  · omega
  · obtain ⟨v', h3, h4⟩ := h.row
    cases Boxed.uniq h1 h3
    have := rowBlock h4 h2
    exact ⟨this.1, this.2.1⟩
theorem NamesI.keep {b0 n : Nat} {s : List ByteArray} {w w' : World} (h : NamesI b0 n s w) (hs : w.heap.size ≤ w'.heap.size) (ho : ∀ b, NamesO b0 w b → w'.heap[b]? = w.heap[b]?) : NamesI b0 n s w' ∧ ∀ b, NamesO b0 w' b → NamesO b0 w b := by
  obtain ⟨v, h1, h2⟩ := h.row
  have e0 := ho b0 (.inl rfl)
  have e1 := ho _ (.inr (.inl rfl))
  have e2 := ho _ (.inr (.inr (.inl rfl)))
  refine ⟨⟨Nat.le_trans h.sz hs, h.len, h.small, ownsMap_same h.set e1, e2.trans h.bq, v, e0.trans h1, ownsRow_same h2 fun b hb => ho b (.inr (.inr (.inr ⟨v, h1, hb⟩)))⟩, fun b hb => ?_⟩
  rcases hb with rfl | rfl | rfl | ⟨u, h3, h4⟩
  · exact .inl rfl
  · exact .inr (.inl rfl)
  · exact .inr (.inr (.inl rfl))
  · exact .inr (.inr (.inr ⟨u, e0.symm.trans h3, h4⟩))
def addName (s : List ByteArray) (x : ByteArray) : List ByteArray := if isIn x s then s else s ++ [x]
theorem NamesI.cellsO {b0 n : Nat} {s : List ByteArray} {w : World} {b : Nat} (h : NamesI b0 n s w) (hb : NamesO b0 w b) (hi : b0 + 4 ≤ b) : ∃ o : Obj, w.heap[b]? = some o ∧ o.isCells = true := by
  rcases hb with rfl | rfl | rfl | ⟨v, h1, h2⟩
  · omega
  · omega
  · omega
  · obtain ⟨v', h3, h4⟩ := h.row
    cases Boxed.uniq h1 h3
    obtain ⟨_, _, cs, t, fz, e⟩ := rowBlock h4 h2
    exact ⟨_, e, rfl⟩
def NamesPost (b0 n : Nat) (s : List ByteArray) (x : ByteArray) (w : World) (e : Ending) (w' : World) : Prop := e = .returned (.string x) ∧ NamesI b0 n (addName s x) w' ∧ Kept (NamesO b0) (b0 + 4) w w'
theorem keptN_below {b0 n : Nat} {s : List ByteArray} {w w' : World} (h : NamesI b0 n s w) (hb : Below w.heap.size w w') : Kept (NamesO b0) (b0 + 4) w w' :=
  ⟨hb.os, hb.tape, hb.output, hb.size, fun b h1 _ => hb.block b h1, fun b hb' => .inl ((h.keep hb.size fun b hb' => hb.block b (h.ltO hb').2).2 b hb'), fun b _ _ h2 _ => (hb.block b (heap_lt h2)).trans h2⟩

theorem names1_end {b0 n : Nat} {s : List ByteArray} {w w2 w3 : World} {x : ByteArray} {v v' : Value} {E tmp : Obj} (h : NamesI b0 (n + 1) s w) (hx : x.size ≤ lim) (hin : isIn x s = false)
    (hv : Boxed (w.alloc E) b0 29 v) (hr : (w.alloc E).ownsRow b0 9 1 v s.length (s.map Value.string)) (ho : w2.ownsMap Tryz.prog 9 (unitElem (H := Unit)) (b0 + 1) (s.length + 1) ((setD s).put (keyL x) (.agg []))) (hg1 : (w.alloc E).grownBy w2 (some (b0 + 1)))
    (hg : (w2.alloc tmp).grownBy w3 v.ownBlock) (hat : v'.ownBlock = v.ownBlock ∨ v'.ownBlock = some (w2.alloc tmp).heap.size)
    (hb2 : Boxed (w3.setCell ⟨b0, 0, none⟩ v') b0 29 v') (hr2 : (w3.setCell ⟨b0, 0, none⟩ v').ownsRow b0 9 1 v' (s ++ [x]).length ((s ++ [x]).map Value.string)) :
    NamesI b0 n (addName s x) (w3.setCell ⟨b0, 0, none⟩ v') ∧ Kept (NamesO b0) (b0 + 4) w (w3.setCell ⟨b0, 0, none⟩ v') := by
  have hz := h.sz
  have al := (Below.refl w.heap.size w).alloc (Nat.le_refl _) E
  have al2 := (Below.refl w2.heap.size w2).alloc (Nat.le_refl _) tmp
  have hs := grownBy_setCell' w3 b0 v'
  have s1 : w.heap.size + 1 ≤ w2.heap.size := by have := hg1.size; simpa using this
  have s2 : w2.heap.size + 1 ≤ w3.heap.size := by have := hg.size; simpa using this
  have s3 : w3.heap.size ≤ (w3.setCell ⟨b0, 0, none⟩ v').heap.size := hs.size
  have hvw : Boxed w b0 29 v := (al.block b0 (by omega)).symm.trans hv
  have i1 := (h.keep al.size fun b hb => al.block b (h.ltO hb).2).1
  have blk : ∀ b, b < w.heap.size → b ≠ b0 → b ≠ b0 + 1 → some b ≠ v.ownBlock → (w3.setCell ⟨b0, 0, none⟩ v').heap[b]? = w.heap[b]? := fun b h1 h2 h3 h4 => by
    rw [hs.block b (by omega) (fun e => h2 (by simpa using e)), hg.block b (by simp; omega) h4, al2.block b (by omega), hg1.block b (by simp; omega) (fun e => h3 (by simpa using e)), al.block b h1]
  have nq : some (b0 + 2) ≠ v.ownBlock := i1.bq.not_row (by decide) hr
  have nm : some (b0 + 1) ≠ v.ownBlock := fun e => by
    obtain ⟨_, _, cs, t, fz, ec⟩ := rowBlock hr e.symm
    exact map_not_cells i1.set ec
  have hm : (w3.setCell ⟨b0, 0, none⟩ v').heap[b0 + 1]? = w2.heap[b0 + 1]? := by
    rw [hs.block _ (by omega) (fun e => by simp at e), hg.block _ (by simp; omega) nm, al2.block _ (by omega)]
  refine ⟨?_, ⟨hs.os.trans (hg.os.trans (al2.os.trans (hg1.os.trans al.os))), hs.tape.trans (hg.tape.trans (al2.tape.trans (hg1.tape.trans al.tape))), hs.output.trans (hg.output.trans (al2.output.trans (hg1.output.trans al.output))), by omega, fun b h1 h2 => blk b h1 (fun e => h2 (.inl e)) (fun e => h2 (.inr (.inl e))) (fun e => h2 (.inr (.inr (.inr ⟨v, hvw, e.symm⟩)))), fun b hb => ?_, fun b o h1 h2 h3 => ?_⟩⟩
  · unfold addName
    rw [hin]
    refine ⟨by omega, by have := h.len; simp; omega, fun y hy => ?_, ?_, (blk _ (by omega) (by omega) (by omega) nq).trans h.bq, v', hb2, hr2⟩
    · simp only [Bool.false_eq_true, if_false] at hy
      rcases List.mem_append.1 hy with hy | hy
      · exact h.small y hy
      · rw [List.mem_singleton.1 hy]; exact hx
    · simp only [Bool.false_eq_true, if_false]
      rw [setD_snoc, List.length_append, List.length_singleton]
      exact ownsMap_same ho hm
  · rcases hb with rfl | rfl | rfl | ⟨u, h3, h4⟩
    · exact .inl (.inl rfl)
    · exact .inl (.inr (.inl rfl))
    · exact .inl (.inr (.inr (.inl rfl)))
    · cases Boxed.uniq h3 hb2
      rcases hat with e | e
      · exact .inl (.inr (.inr (.inr ⟨v, hvw, e.symm.trans h4⟩)))
      · rw [e] at h4
        refine .inr ?_
        simp at h4
        omega
  · have hlt := heap_lt h2
    rw [blk b hlt (by omega) (by omega) (fun e => ?_)]
    · exact h2
    · obtain ⟨_, _, cs, t, fz, ec⟩ := rowBlock hr e.symm
      rw [al.block b hlt, h2] at ec
      cases ec
      cases h3
set_option maxRecDepth 100000 in
set_option maxHeartbeats 2000000 in
theorem names1_any (b0 n : Nat) (s : List ByteArray) (w : World) (x : ByteArray) (h : NamesI b0 (n + 1) s w) (hx : x.size ≤ lim) :
    Calls Tryz.prog 50 #[.string x, .pointer (some ⟨b0 + 2, 0, none⟩), .pointer (some ⟨b0, 0, none⟩)] w (NamesPost b0 n s x w) := by
  have hk := key9 (s := x) (Nat.le_trans hx (by decide))
  have HK := Lib.hid hk
  have HI := Lib.hid h
  have cq := h.bq.cell
  have hz := h.sz
  have hl := h.len
  clear h hk
  cases hin : isIn x s with
  | true =>
    have HS := Lib.hid (show Maps.has (setD s) (keyL x) = true by rw [has_setD, hin])
    have HN := Lib.hid hin
    clear hin
    go_enter Tryz.func50, Tryz.ntmps50
    go_wp2_with (first
      | (at_lookup; refine wpList_lookup_own_unit _ rfl _ _ 92 rfl 9 93 law9 under92 (zero93 _) (b0 + 1) _ _ rfl HI.out.set _ _ rfl HK.out ?_; rw [HS.out]))
    go_ret
    have b := (Below.refl w.heap.size w).alloc (Nat.le_refl _) (.cells #[] 93)
    refine ⟨rfl, ?_, keptN_below HI.out b⟩
    have hi := (HI.out.keep b.size fun b' hb' => b.block b' (HI.out.ltO hb').2).1
    unfold addName
    rw [HN.out]
    exact ⟨hi.sz, by have := hi.len; simp; omega, hi.small, hi.set, hi.bq, hi.row⟩
  | false =>
    have HS := Lib.hid (show Maps.has (setD s) (keyL x) = false by rw [has_setD, hin])
    have HN := Lib.hid hin
    clear hin
    have b := (Below.refl w.heap.size w).alloc (Nat.le_refl _) (.cells #[] 93)
    have HI1 := Lib.hid (HI.out.keep b.size fun b' hb' => b.block b' (HI.out.ltO hb').2).1
    have cq1 := HI1.out.bq.cell
    obtain ⟨v, hv0, hr0⟩ := HI1.out.row
    have HV := Lib.hid hv0
    have HR := Lib.hid hr0
    obtain ⟨i0, hi, hz0, hz1, hz2⟩ := info_parts info9
    clear hv0 hr0 b
    go_enter Tryz.func50, Tryz.ntmps50
    go_wp2_with (first
      | (at_lookup; refine wpList_lookup_own_unit _ rfl _ _ 92 rfl 9 93 law9 under92 (zero93 _) (b0 + 1) _ _ rfl HI.out.set _ _ rfl HK.out ?_; rw [HS.out])
      | (at_mapUpdate; refine wpList_mapUpdate_own _ rfl _ _ _ 92 rfl 9 93 law9 under92 (unitElem (H := Unit)) (b0 + 1) _ _ rfl HI1.out.set (by unfold maxLen; omega) _ _ _ rfl rfl HK.out _ [] unitElem_mk ?_; intro w2 hown1 hgrow1;
          have hv := HV.out.kept hgrow1 (by simp); have hrow := ownsRow_same HR.out (fun b' hb' => hgrow1.block b' (rowBlock HR.out hb').2.1 (fun e => by
            have e' : b' = b0 + 1 := by simpa using e
            obtain ⟨_, _, cs, t, fz, ec⟩ := rowBlock HR.out hb'
            rw [e'] at ec
            exact map_not_cells HI1.out.set ec)); have hc := hv.cell; have HO1 := Lib.hid hown1; have HG1 := Lib.hid hgrow1; clear hown1 hgrow1)
      | (at_builtin; refine wpList_append_own_at _ rfl _ _ 29 rfl b0 9 i0 (.string ⟨#[]⟩) 1 16 Tryz.underlying29 hi hz0 hz1 hz2 rfl (by decide) _ _ _ rfl (hrow.alloc _) ⟨w2.heap.size, 0, none⟩ 1 1 [.string x] rfl rfl (cell_one_new _ _ _) (by simp [Value.oneCell']) (by unfold maxLen; omega) (by omega) (by have := HG1.out.size; simp at this ⊢; omega) ?_; intro v' w3 hown' hgrow _ hat; obtain ⟨g', cap', rfl⟩ := ownsRow_succ hown'; obtain ⟨hv1, hv2, hr2, hk2, hb2⟩ := hv.appended (by decide) hrow (by have := HG1.out.size; simp at this; omega) (Nat.le_refl _) hown' hgrow; have hc1 := hv1.cell; have hf1 := hv1.frozen))
    go_ret
    exact ⟨rfl, names1_end HI.out hx HN.out HV.out HR.out HO1.out HG1.out hgrow hat hv2 (by simpa using hr2)⟩
end Go.Proofs.YtciijpahjjoppaaGreat
