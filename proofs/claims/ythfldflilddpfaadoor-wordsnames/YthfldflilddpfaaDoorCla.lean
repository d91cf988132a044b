/-
  Clash, walked; a list of texts of one's own that grows.
-/
import Derived.Test.YthfldflilddpfaaDoorSet
import Derived.Deep.MidRow
namespace Go.Proofs.YthfldflilddpfaaDoor
open Go.RowKit Go.Maps

theorem OwnS.mono {b b' : Nat} {w : World} {v : Value} {ss : List ByteArray} (h : OwnS b w v ss) (hb : b' ≤ b) : OwnS b' w v ss := by
  refine ⟨h.1, ?_⟩
  rcases h.2 with h4 | ⟨g, cap, cur, hv, hb', r⟩
  · exact .inl h4
  · exact .inr ⟨g, cap, cur, hv, Nat.le_trans hb hb', r⟩
theorem info9 : (Tryd.prog.info? 9).map (fun i => (i.zero, i.size, i.bytes)) = some (some (.string ⟨#[]⟩), 1, 16) := by kernel_rfl
theorem run_appS {base : Nat} {w : World} {v : Value} {ss : List ByteArray} (ty : TypeId) (h : OwnS base w v ss) (hbase : base ≤ w.heap.size) {a : Option Addr} {len cap : Nat} {ls : List ByteArray} (hl : IsStrs w a len cap ls) (hb : ss.length + len ≤ 100000) :
    ∃ v' w', (Builtin.append_ #[22, 22] ty #[v, .slice a len cap]).run Tryd.prog w = .ok v' w' ∧ OwnS base w' v' (ss ++ ls) ∧ w.grownBy w' v.ownBlock := by
  obtain ⟨i, hi, hz0, hz1, hz2⟩ := info_parts info9
  have go : ∀ ad : Addr, a = some ad → (∀ (j : Nat) u, (ls.map Value.string)[j]? = some u → w.cell? (ad.add j) = some u) → ∃ v' w', (Builtin.append_ #[22, 22] ty #[v, .slice a len cap]).run Tryd.prog w = .ok v' w' ∧ OwnS base w' v' (ss ++ ls) ∧ w.grownBy w' v.ownBlock := by
    intro ad e hn
    subst e
    obtain ⟨v', w', h1, h2, h3, _, h5⟩ := run_append_own_at (P := Tryd.prog) w base 22 ty 9 i (.string ⟨#[]⟩) 1 16 Tryd.underlying22 hi hz0 hz1 hz2 rfl (by decide) v ss.length (ss.map Value.string) h ad len cap (ls.map Value.string) (by rw [List.length_map, hl.1]; omega) hn (by simp [Value.oneCell']) (by unfold maxLen; omega) (by omega) hbase
    refine ⟨v', w', h1, ?_, h3⟩
    unfold OwnS
    rw [List.length_append, hl.1, List.map_append]
    exact h2
  cases a with
  | none =>
    have h0 : len = 0 := by
      rcases hl.2.2.2.2 with h0 | ⟨b, o, e, _⟩
      · exact h0
      · cases e
    subst h0
    have : ls = [] := List.eq_nil_of_length_eq_zero hl.1
    subst this
    refine ⟨v, w, ?_, by rw [List.append_nil]; exact h, ⟨rfl, rfl, rfl, Nat.le_refl _, fun _ _ _ => rfl⟩⟩
    rcases h.2 with ⟨rfl, _⟩ | ⟨g, c, cur, rfl, _, _, hnc, _⟩
    · simp [Builtin.append_, run_underlying Tryd.underlying22, sizeOf, typeInfo, hi, Builtin.lenOf, Builtin.firstCells]
    · simp [Builtin.append_, run_underlying Tryd.underlying22, sizeOf, typeInfo, hi, Builtin.lenOf, Builtin.firstCells, hnc, storeCells]
  | some ad =>
    refine go ad rfl ?_
    intro j u hu
    rcases hl.2.2.2.2 with h0 | ⟨b, o, e, _, hc⟩
    · have : ls = [] := List.eq_nil_of_length_eq_zero (hl.1.trans h0)
      subst this
      simp at hu
    · cases e
      rw [Addr.add_mid]
      rw [List.getElem?_map] at hu
      cases hj : ls[j]? with
      | none => rw [hj] at hu; simp at hu
      | some z => rw [hj] at hu; simp at hu; rw [← hu]; exact hc j z hj
theorem wp_appS {ops : Array Oper} {rest : List Oper} {o : Oper} {a : Act} {Q : Exit → Act → World → Prop} (hgd : o.guard = none) (sl x : Operand)
    (ho : o.op = .call { callee := .builtin .append, args := #[sl, x], argTypes := #[22, 22] })
    {base : Nat} {w : World} {v : Value} {ss : List ByteArray} (h : OwnS base w v ss) (hbase : base ≤ w.heap.size) {ad : Option Addr} {len cap : Nat} {ls : List ByteArray} (hl : IsStrs w ad len cap ls) (hs : a.eval sl = v) (hx : a.eval x = .slice ad len cap) (hb : ss.length + len ≤ 100000)
    (hk : ∀ v' w', OwnS base w' v' (ss ++ ls) → w.grownBy w' v.ownBlock → wpList Tryd.prog ops Q rest (a.put o.dst v') w') :
    wpList Tryd.prog ops Q (o :: rest) a w := by
  refine wpList_plain hgd fun K hK => ?_
  obtain ⟨v', w', hr, h2, h3⟩ := run_appS o.type h hbase hl hb
  unfold Oper.wp execOp
  simp only [ho, resolve, invoke, builtin, Sem.run_bind, Sem.run_pure, Result.andThen_ok, List.map_toArray, List.map_cons, List.map_nil, hs, hx, hr]
  exact hK _ _ (hk v' w' h2 h3)

theorem lists1 {w : World} {a : Option Addr} {n c : Nat} {ss : List ByteArray} (h : IsStrs w a n c ss) : IsLists (w.alloc (.cells #[.slice a n c] 22)) w.heap.size 0 [ss] := by
  have hb : Below w.heap.size w (w.alloc (.cells #[.slice a n c] 22)) := (Below.refl _ _).alloc (Nat.le_refl _) _
  have hg := heap_new w (.cells #[.slice a n c] 22)
  generalize hw : w.alloc (.cells #[.slice a n c] 22) = w1 at *
  refine ⟨heap_lt hg, fun j x hx => ?_⟩
  match j, hx with
  | 0, hx => simp at hx; subst hx; exact ⟨a, n, c, by simp [World.cell?, hg], h.below hb⟩

/-- What is left: the words that were not told. -/
def Left (D : DataW Unit) (ws cs : List ByteArray) : Prop := ∀ y, Maps.has D (keyL y) = (isIn y ws && !isIn y cs)
theorem left_start (ws : List ByteArray) : Left (setD ws) ws [] := fun y => by rw [has_setD]; simp [isIn]
theorem isIn_app (y x : ByteArray) (cs : List ByteArray) : isIn y (cs ++ [x]) = (isIn y cs || (x.toList == y.toList)) := by
  unfold isIn
  rw [List.any_append]
  simp
theorem left_del {D : DataW Unit} {ws cs : List ByteArray} (h : Left D ws cs) (x : ByteArray) : Left (D.del (keyL x)) ws (cs ++ [x]) := fun y => by
  rw [isIn_app]
  cases hb : x.toList == y.toList with
  | true =>
    obtain rfl := (beq_iff x y).1 hb
    rw [has_del_same]
    simp
  | false =>
    rw [has_del_other (fun e => (beq_false x y).1 hb (keyL_inj e).symm), h y]
    simp
theorem clash_yes {ws ss : List ByteArray} {k : Nat} {x : ByteArray} (hx : ss[k]? = some x) (h : (isIn x ws && !isIn x (clash ws (ss.take k))) = true) : clash ws (ss.take (k + 1)) = clash ws (ss.take k) ++ [x] := by
  rw [take_snoc hx, clash_snoc, if_pos h]
theorem clash_no {ws ss : List ByteArray} {k : Nat} {x : ByteArray} (hx : ss[k]? = some x) (h : (isIn x ws && !isIn x (clash ws (ss.take k))) = false) : clash ws (ss.take (k + 1)) = clash ws (ss.take k) := by
  rw [take_snoc hx, clash_snoc, if_neg (by rw [h]; exact Bool.false_ne_true)]
theorem own_ne {base : Nat} {w : World} {v : Value} {ss : List ByteArray} (h : OwnS base w v ss) {b : Nat} (hb : b < base) : some b ≠ v.ownBlock := fun e1 => by
  have := (h.lt b e1.symm).1
  omega
theorem own_grown {base : Nat} {w w' : World} {v : Value} {ss : List ByteArray} (h : OwnS base w v ss) {b : Nat} (hb : b < base) (hg : w.grownBy w' (some b)) : OwnS base w' v ss :=
  h.kept fun k hk => hg.block k (h.lt k hk).2 (fun e => by have := (h.lt k hk).1; cases e; omega)

/-- What Clash leaves. -/
def ClashPost (ws ss : List ByteArray) (w : World) (e : Ending) (w' : World) : Prop := ∃ v, e = .returned v ∧ OwnS w.heap.size w' v (clash ws ss) ∧ Below w.heap.size w w'

set_option maxHeartbeats 3200000 in
theorem clash_any (d : Int) (a : Option Addr) (len cap : Nat) (ss : List ByteArray) (w : World) (hS : IsStrs w a len cap ss) (hl : len ≤ 61) :
    Calls Tryd.prog 20 #[.int .i64 d, .slice a len cap] w (ClashPost (wordsOf d) ss w) := by
  have HS := Lib.hid hS
  clear hS
  go_enter Tryd.func20, Tryd.ntmps20
  go_wp2_with fail
  refine (all_any d _).mono ?_
  rintro e w1 ⟨v0, rfl, o0, b0⟩
  obtain ⟨a0, c0, rfl, S0⟩ := o0.strs (words_ok d)
  have H0 := Lib.hid S0
  have B0 := Lib.hid b0
  clear S0 b0 o0
  go_wp2_with fail
  refine (setOf_any w1.heap.size 0 1 [wordsOf d] _ (lists1 H0.out) (by simp) (by have := words_len d; simp; omega)).mono ?_
  rintro e w3 ⟨rfl, o3, b3⟩
  have e3 : (w1.alloc (.cells #[.slice a0 (wordsOf d).length c0] 22)).heap.size = w1.heap.size + 1 := by simp
  have e4 : [wordsOf d].flatten = wordsOf d := by simp
  rw [e3, e4] at o3
  rw [e3] at b3
  have O3 := Lib.hid o3
  have B3 := Lib.hid ((B0.out.alloc B0.out.size (.cells #[.slice a0 (wordsOf d).length c0] 22)).trans (b3.mono (Nat.le_succ_of_le B0.out.size)))
  have HW := Lib.hid B0.out.size
  clear o3 b3 e3 e4 H0 B0
  go_wp2_with fail
  generalize hws : wordsOf d = ws at O3 ⊢
  have HWS := Lib.hid hws
  clear hws
  generalize hN : ws.length = N at O3 ⊢
  clear hN
  generalize w1.heap.size = q at O3 HW ⊢
  have hq : w.heap.size ≤ q := HW.out
  clear HW
  go_loopw [6, 15] (fun v i wr => ∃ (k : Nat) (D : DataW Unit), i = .int .i64 (k : Nat) ∧ k ≤ len ∧ SetAt wr (q + 1) N D ∧ Left D ws (clash ws (ss.take k)) ∧ OwnS (q + 2) wr v (clash ws (ss.take k)) ∧ Below w.heap.size w wr)
    (fun _ i _ => len - (intOf i).toNat)
  case atStart => exact ⟨0, setD ws, rfl, Nat.zero_le _, O3.out, left_start ws, OwnS.nil _ _, B3.out⟩
  case round =>
    obtain ⟨k, D, rfl, hk, hown, hleft, hrow, hnx⟩ := hrel
    have HO := Lib.hid hown
    have HL := Lib.hid hleft
    have HR := Lib.hid hrow
    have HB := Lib.hid hnx
    clear hown hleft hrow hnx
    by_cases hlt : k < len
    · obtain ⟨b, o, x, rfl, hx, hxs, hc⟩ := (HS.out.below HB.out).at hlt
      have HX := Lib.hid hx
      have HK := Lib.hid (key9 hxs)
      have hcl : (clash ws (ss.take k)).length ≤ 61 := by
        have h1 := clash_len ws (ss.take k)
        have h2 : (ss.take k).length ≤ k := List.length_take_le _ _
        omega
      clear hx
      go_wp2_with fail
      refine (has_any (q + 1) N D x _ hxs HO.out).mono ?_
      rintro e w5 ⟨rfl, rfl⟩
      have HB2 := Lib.hid (HB.out.alloc HB.out.size (.cells #[] 47))
      have HO2 := Lib.hid (World.ownsMap.alloc HO.out (.cells #[] 47))
      have HR2 := Lib.hid (HR.out.below ((Below.refl wr.heap.size wr).alloc (Nat.le_refl _) (.cells #[] 47)))
      generalize wr.alloc (.cells #[] 47) = w5 at HB2 HO2 HR2 ⊢
      rw [HL.out x]
      have hq5 : q + 2 ≤ w5.heap.size := HO2.out.lt
      cases hb : (isIn x ws && !isIn x (clash ws (ss.take k))) with
      | true =>
        have HY := Lib.hid (clash_yes HX.out hb)
        clear hb
        have HB3 := Lib.hid (HB2.out.alloc HB2.out.size (.cells (([x] : List ByteArray).map Value.string).toArray 9))
        have HO3 := Lib.hid (World.ownsMap.alloc HO2.out (.cells (([x] : List ByteArray).map Value.string).toArray 9))
        have HR3 := Lib.hid (HR2.out.below ((Below.refl w5.heap.size w5).alloc (Nat.le_refl _) (.cells (([x] : List ByteArray).map Value.string).toArray 9)))
        have HLs := Lib.hid (lit_strs w5 [x] (by simp [maxLen]) (by simpa using hxs))
        go_wp2_with (first
          | (at_builtin
             refine wp_appS rfl (.tmp 22) (.tmp 24) rfl HR3.out (by simp; omega) HLs.out rfl rfl (by simp; omega) ?_
             intro v' w6 hown6 hgrow6
             have HR6 := Lib.hid hown6
             have HO6 := Lib.hid (HO3.out.kept hgrow6 (own_ne HR3.out (by omega)))
             have HB6 := Lib.hid (HB3.out.grown hgrow6 (by simp; omega) (fun j hj => by have := (HR3.out.lt j hj).1; omega))
             clear hown6 hgrow6)
          | (at_delete; refine wpList_delete_own _ rfl _ _ 40 9 rfl 47 law9 under40 _ (q + 1) N D rfl HO6.out _ _ rfl HK.out ?_; intro w7 hown7 hturn7)
          | go_in)
        have HO7 := Lib.hid hown7
        have HB7 := Lib.hid (HB6.out.grown hturn7.grown HB6.out.size (fun j hj => by cases hj; omega))
        have HR7 := Lib.hid (own_grown HR6.out (by omega) hturn7.grown)
        clear hown7 hturn7
        go_roundw
        case rel =>
          refine ⟨k + 1, D.del (keyL x), by go_num, by omega, HO7.out, ?_, ?_, HB7.out⟩
          · rw [HY.out]; exact left_del HL.out x
          · rw [HY.out]; exact HR7.out
        case measure => simp [intOf]; omega
      | false =>
        have HY := Lib.hid (clash_no HX.out hb)
        clear hb
        go_wp2_with fail
        go_roundw
        case rel =>
          refine ⟨k + 1, D, by go_num, by omega, HO2.out, ?_, ?_, HB2.out⟩
          · rw [HY.out]; exact HL.out
          · rw [HY.out]; exact HR2.out
        case measure => simp [intOf]; omega
    · have hk2 : k = len := by omega
      subst hk2
      have HR2 := HR.out
      rw [List.take_of_length_le (by rw [HS.out.1]; omega)] at HR2
      rw [← HWS.out] at HR2
      have HR3 := Lib.hid (HR2.mono (b' := w.heap.size) (by omega))
      clear HR2
      go_wp2_with fail
      go_ret
      exact ⟨_, rfl, HR3.out, HB.out⟩
end Go.Proofs.YthfldflilddpfaaDoor
