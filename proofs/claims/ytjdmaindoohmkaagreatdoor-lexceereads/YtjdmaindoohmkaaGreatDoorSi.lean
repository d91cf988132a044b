/-
  The lexer's reader of a name, walked.
-/
import Derived.Test.YtjdmaindoohmkaaGreatDoorSh
import Derived.Deep.MidRow
namespace Go.Proofs.YtjdmaindoohmkaaGreatDoor
open Go.RowKit Go.Sort

theorem OwnS.mono {b b' : Nat} {w : World} {v : Value} {ss : List ByteArray} (h : OwnS b w v ss) (hb : b' ≤ b) : OwnS b' w v ss := by
  refine ⟨h.1, ?_⟩
  rcases h.2 with h4 | ⟨g, cap, cur, hv, hb', r⟩
  · exact .inl h4
  · exact .inr ⟨g, cap, cur, hv, Nat.le_trans hb hb', r⟩
theorem info9 : (Tryz.prog.info? 9).map (fun i => (i.zero, i.size, i.bytes)) = some (some (.string ⟨#[]⟩), 1, 16) := by kernel_rfl
theorem run_appS {base : Nat} {w : World} {v : Value} {ss : List ByteArray} (ty : TypeId) (h : OwnS base w v ss) (hbase : base ≤ w.heap.size) {a : Option Addr} {len cap : Nat} {ls : List ByteArray} (hl : IsStrs w a len cap ls) (hb : ss.length + len ≤ 100000) :
    ∃ v' w', (Builtin.append_ #[67, 67] ty #[v, .slice a len cap]).run Tryz.prog w = .ok v' w' ∧ OwnS base w' v' (ss ++ ls) ∧ w.grownBy w' v.ownBlock := by
  obtain ⟨i, hi, hz0, hz1, hz2⟩ := info_parts info9
  have go : ∀ ad : Addr, a = some ad → (∀ (j : Nat) u, (ls.map Value.string)[j]? = some u → w.cell? (ad.add j) = some u) → ∃ v' w', (Builtin.append_ #[67, 67] ty #[v, .slice a len cap]).run Tryz.prog w = .ok v' w' ∧ OwnS base w' v' (ss ++ ls) ∧ w.grownBy w' v.ownBlock := by
    intro ad e hn
    subst e
    obtain ⟨v', w', h1, h2, h3, _, h5⟩ := run_append_own_at (P := Tryz.prog) w base 67 ty 9 i (.string ⟨#[]⟩) 1 16 Tryz.underlying67 hi hz0 hz1 hz2 rfl (by decide) v ss.length (ss.map Value.string) h ad len cap (ls.map Value.string) (by rw [List.length_map, hl.1]; omega) hn (by simp [Value.oneCell']) (by unfold maxLen; omega) (by omega) hbase
    refine ⟨v', w', h1, ?_, h3⟩
    unfold OwnS
    rw [List.length_append, hl.1, List.map_append]
    exact h2
  cases a with
  | none =>
    have h0 : len = 0 := by
      rcases hl.2.2.2.2 with h0 | ⟨b, o, e, _⟩
      · exact h0
      · cases e
    subst h0
    have : ls = [] := List.eq_nil_of_length_eq_zero hl.1
    subst this
    refine ⟨v, w, ?_, by rw [List.append_nil]; exact h, ⟨rfl, rfl, rfl, Nat.le_refl _, fun _ _ _ => rfl⟩⟩
    rcases h.2 with ⟨rfl, _⟩ | ⟨g, c, cur, rfl, _, _, hnc, _⟩
    · simp [Builtin.append_, run_underlying Tryz.underlying67, sizeOf, typeInfo, hi, Builtin.lenOf, Builtin.firstCells]
    · simp [Builtin.append_, run_underlying Tryz.underlying67, sizeOf, typeInfo, hi, Builtin.lenOf, Builtin.firstCells, hnc, storeCells]
  | some ad =>
    refine go ad rfl ?_
    intro j u hu
    rcases hl.2.2.2.2 with h0 | ⟨b, o, e, _, hc⟩
    · have : ls = [] := List.eq_nil_of_length_eq_zero (hl.1.trans h0)
      subst this
      simp at hu
    · cases e
      rw [Addr.add_mid]
      rw [List.getElem?_map] at hu
      cases hj : ls[j]? with
      | none => rw [hj] at hu; simp at hu
      | some z => rw [hj] at hu; simp at hu; rw [← hu]; exact hc j z hj
theorem wp_appS {ops : Array Oper} {rest : List Oper} {o : Oper} {a : Act} {Q : Exit → Act → World → Prop} (hgd : o.guard = none) (sl x : Operand)
    (ho : o.op = .call { callee := .builtin .append, args := #[sl, x], argTypes := #[67, 67] })
    {base : Nat} {w : World} {v : Value} {ss : List ByteArray} (h : OwnS base w v ss) (hbase : base ≤ w.heap.size) {ad : Option Addr} {len cap : Nat} {ls : List ByteArray} (hl : IsStrs w ad len cap ls) (hs : a.eval sl = v) (hx : a.eval x = .slice ad len cap) (hb : ss.length + len ≤ 100000)
    (hk : ∀ v' w', OwnS base w' v' (ss ++ ls) → w.grownBy w' v.ownBlock → wpList Tryz.prog ops Q rest (a.put o.dst v') w') :
    wpList Tryz.prog ops Q (o :: rest) a w := by
  refine wpList_plain hgd fun K hK => ?_
  obtain ⟨v', w', hr, h2, h3⟩ := run_appS o.type h hbase hl hb
  unfold Oper.wp execOp
  simp only [ho, resolve, invoke, builtin, Sem.run_bind, Sem.run_pure, Result.andThen_ok, List.map_toArray, List.map_cons, List.map_nil, hs, hx, hr]
  exact hK _ _ (hk v' w' h2 h3)

theorem OwnS.only {base c : Nat} {w w' : World} {v : Value} {ss : List ByteArray} (h : OwnS base w v ss) (hc : c < base) (o : Only c w w') : OwnS base w' v ss :=
  h.kept fun k hk => o.block k (by have := (h.lt k hk).1; omega) (h.lt k hk).2
theorem setL_is (c : UInt8) : setL.data.toList.contains c = isLet c := by
  have := all8 (q := fun c => setL.data.toList.contains c == isLet c) (by decide +kernel) c
  simpa using this
theorem setD_has (c : UInt8) : setD.data.toList.contains c = isDig c := by
  have := all8 (q := fun c => setD.data.toList.contains c == isDig c) (by decide +kernel) c
  simpa using this
theorem more_cons (a b : UInt8) (r : List UInt8) : more (a :: b :: r) = (36 == a && isLet b) := by
  by_cases h : a = 36
  · subst h; rfl
  · have : ((36 : UInt8) == a) = false := by simpa using fun e => h e.symm
    rw [this, Bool.false_and]
    unfold more
    split
    · rename_i e; exact absurd (List.cons.inj e).1 h
    · rfl
theorem more_one (a : UInt8) : more [a] = false := by
  unfold more
  split
  · rename_i e; exact absurd (List.cons.inj e).2 (by simp)
  · rfl
theorem more_at (s : ByteArray) (k : Nat) : more (s.data.toList.drop k) = (Lib.hasPrefix (s.data.toList.drop k) [36] && isLet (bt s (k + 1))) := by
  by_cases h : k < s.size
  · rw [drop_bt s k h]
    by_cases h1 : k + 1 < s.size
    · rw [drop_bt s (k + 1) h1, more_cons, hp_cons, hp_nil, Bool.and_true]
    · rw [drop_end s (k + 1) h1, more_one, bt_out s (k + 1) (by omega), show isLet 0 = false from by decide, Bool.and_false]
  · rw [drop_end s k h]; rfl
theorem dw_dr (p : UInt8 → Bool) : ∀ l : List UInt8, l.dropWhile p = l.drop (l.takeWhile p).length
  | [] => rfl
  | c :: r => by
    rw [List.dropWhile_cons, List.takeWhile_cons]
    split
    · rw [dw_dr p r]; simp
    · rfl
set_option maxHeartbeats 400000 in
theorem part_any (p c k : Nat) (s : ByteArray) (w : World) (h : ScAt w p c s k) (hs : s.size ≤ maxLen) :
    Calls Tryz.prog 31 #[.agg #[.pointer (some ⟨p, 0, none⟩)]] w fun e w' => e = .returned (.string ⟨((s.data.toList.drop k).takeWhile isNam).toArray⟩) ∧ CurAt w' c s (k + ((s.data.toList.drop k).takeWhile isNam).length) ∧ Only c w w' := by
  have h00 := h.c0
  have hpl := h.lt
  have H := Lib.hid h
  clear h
  have HW := Lib.hid fun w1 hc => while_tw c k s setN isNam w1 hc hs (by decide) setN_is
  go_enter Tryz.func31, Tryz.ntmps31
  go_wp2_with fail
  refine (HW.out _ (H.out.alloc _).cur).mono ?_
  have B := Lib.hid (show Below w.heap.size w (w.alloc (.cells #[.pointer (some ⟨p, 0, none⟩)] 38)) from (Below.refl _ _).alloc (Nat.le_refl _) _)
  generalize w.alloc (.cells #[.pointer (some ⟨p, 0, none⟩)] 38) = w0 at B
  rintro e w1 ⟨rfl, c1, o1⟩
  have C1 := Lib.hid c1
  have O1 := Lib.hid (o1.from B.out)
  clear c1 o1 h00
  go_wp2_with fail
  go_ret
  exact ⟨rfl, C1.out, O1.out⟩
set_option maxHeartbeats 1000000 in
theorem follows_any (p c k : Nat) (s : ByteArray) (w : World) (h : ScAt w p c s k) (hs : s.size ≤ maxLen) :
    Calls Tryz.prog 32 #[.agg #[.pointer (some ⟨p, 0, none⟩)]] w fun e w' => e = .returned (.bool (more (s.data.toList.drop k))) ∧ Below w.heap.size w w' := by
  rw [more_at]
  have h00 := h.c0
  have hpl := h.lt
  have H := Lib.hid h
  clear h
  have P1 := Lib.hid fun w1 hc => peek_bt c k 1 s w1 hc hs
  have hB := fun w1 hw => begins2 p c k s ⟨#[36]⟩ w1 hw
  have hL := fun w1 => oneOf_any setL (bt s (k + 1)) w1
  rw [setL_is] at hL
  have HL := Lib.hid hL
  clear hL
  cases hp : Lib.hasPrefix (s.data.toList.drop k) [36] with
  | true =>
    rw [Bool.true_and]
    rw [show Lib.hasPrefix (s.data.toList.drop k) (ByteArray.mk #[36]).data.toList = true from hp] at hB
    have HB := Lib.hid hB
    clear hB hp
    go_enter Tryz.func32, Tryz.ntmps32
    go_wp2_with fail
    refine (P1.out _ (H.out.alloc _).cur).mono ?_
    have B := Lib.hid (show Below w.heap.size w (w.alloc (.cells #[.pointer (some ⟨p, 0, none⟩)] 38)) from (Below.refl _ _).alloc (Nat.le_refl _) _)
    have H0 := Lib.hid (H.out.alloc (.cells #[.pointer (some ⟨p, 0, none⟩)] 38))
    have X0 := Lib.hid (show (w.alloc (.cells #[.pointer (some ⟨p, 0, none⟩)] 38)).cell? ⟨w.heap.size, 0, none⟩ = some (.pointer (some ⟨p, 0, none⟩)) by have := heap_new w (.cells #[.pointer (some ⟨p, 0, none⟩)] 38); unfold World.cell?; simp only [this]; rfl)
    generalize w.alloc (.cells #[.pointer (some ⟨p, 0, none⟩)] 38) = w0 at B H0 X0
    rintro e w1 ⟨rfl, n1, hw1⟩
    have S1 := Lib.hid (show ScAt w1 p c s k by rw [hw1]; exact H0.out.drewN n1)
    have x1 : w1.cell? ⟨w.heap.size, 0, none⟩ = some (.pointer (some ⟨p, 0, none⟩)) := by rw [hw1]; exact X0.out
    have B1 := Lib.hid (show Below w.heap.size w w1 by rw [hw1]; exact below_drewN B.out n1)
    clear hw1 h00
    go_wp2_with fail
    refine (HB.out _ S1.out).mono ?_
    rintro e w2 ⟨rfl, b2⟩
    have B2 := Lib.hid (B1.out.trans (b2.mono B1.out.size))
    clear b2 x1
    go_wp2_with fail
    refine (HL.out _).mono ?_
    rintro e w3 ⟨rfl, rfl⟩
    go_wp2_with fail
    go_ret
    exact ⟨rfl, B2.out⟩
  | false =>
    rw [Bool.false_and]
    rw [show Lib.hasPrefix (s.data.toList.drop k) (ByteArray.mk #[36]).data.toList = false from hp] at hB
    have HB := Lib.hid hB
    clear hB hp
    go_enter Tryz.func32, Tryz.ntmps32
    go_wp2_with fail
    refine (P1.out _ (H.out.alloc _).cur).mono ?_
    have B := Lib.hid (show Below w.heap.size w (w.alloc (.cells #[.pointer (some ⟨p, 0, none⟩)] 38)) from (Below.refl _ _).alloc (Nat.le_refl _) _)
    have H0 := Lib.hid (H.out.alloc (.cells #[.pointer (some ⟨p, 0, none⟩)] 38))
    have X0 := Lib.hid (show (w.alloc (.cells #[.pointer (some ⟨p, 0, none⟩)] 38)).cell? ⟨w.heap.size, 0, none⟩ = some (.pointer (some ⟨p, 0, none⟩)) by have := heap_new w (.cells #[.pointer (some ⟨p, 0, none⟩)] 38); unfold World.cell?; simp only [this]; rfl)
    generalize w.alloc (.cells #[.pointer (some ⟨p, 0, none⟩)] 38) = w0 at B H0 X0
    rintro e w1 ⟨rfl, n1, hw1⟩
    have S1 := Lib.hid (show ScAt w1 p c s k by rw [hw1]; exact H0.out.drewN n1)
    have x1 : w1.cell? ⟨w.heap.size, 0, none⟩ = some (.pointer (some ⟨p, 0, none⟩)) := by rw [hw1]; exact X0.out
    have B1 := Lib.hid (show Below w.heap.size w w1 by rw [hw1]; exact below_drewN B.out n1)
    clear hw1 h00
    go_wp2_with fail
    refine (HB.out _ S1.out).mono ?_
    rintro e w2 ⟨rfl, b2⟩
    have B2 := Lib.hid (B1.out.trans (b2.mono B1.out.size))
    clear b2 x1
    go_wp2_with fail
    go_ret
    exact ⟨rfl, B2.out⟩
/-- The state of a loop over a name's parts. -/
structure NS (w : World) (p c : Nat) (s : ByteArray) (j : Nat) (v : Value) (ps : List ByteArray) (wr : World) : Prop where
  os : OS w p c s j wr
  own : OwnS (w.heap.size + 2) wr v ps
  cl : c < w.heap.size
  pl : p < w.heap.size
theorem NS.next {w wr w2 : World} {p c k j : Nat} {s : ByteArray} {v : Value} {ps : List ByteArray} (h : NS w p c s k v ps wr) (o : Only c wr w2) (cu : CurAt w2 c s j) : NS w p c s j v ps w2 :=
  ⟨h.os.next h.cl o cu, h.own.only (by have := h.cl; omega) o, h.cl, h.pl⟩
theorem NS.below {w wr w2 : World} {p c k : Nat} {s : ByteArray} {v : Value} {ps : List ByteArray} (h : NS w p c s k v ps wr) (b : Below wr.heap.size wr w2) : NS w p c s k v ps w2 :=
  ⟨h.os.below b, h.own.below b, h.cl, h.pl⟩
theorem NS.app {w wr w2 : World} {p c k : Nat} {s : ByteArray} {v v' : Value} {ps ps' : List ByteArray} (h : NS w p c s k v ps wr) (g : wr.grownBy w2 v.ownBlock) (o : OwnS (w.heap.size + 2) w2 v' ps') : NS w p c s k v' ps' w2 := by
  have hne : ∀ b, b < w.heap.size + 2 → some b ≠ v.ownBlock := fun b hb e => by have := (h.own.lt b e.symm).1; omega
  have hp := h.pl
  have hc := h.cl
  have hv := h.os.sc.vs
  have hvl := h.os.sc.var.lt
  refine ⟨⟨⟨h.os.sc.cur.stays (g.block c h.os.sc.cur.lt (hne c (by omega))), (g.block p h.os.sc.lt (hne p (by omega))).trans h.os.sc.blk, h.os.sc.ne, h.os.sc.var.kept (g.block _ hvl.1 (hne _ (by omega))) (g.block _ hvl.2 (hne _ (by omega))), hv⟩, (g.block _ (heap_lt h.os.box) (hne _ (by omega))).trans h.os.box, ⟨(g.block _ h.os.tok.lt (hne _ (by omega))).trans h.os.tok.blk⟩, ?_⟩, o, hc, hp⟩
  exact ⟨g.os.trans h.os.only.os, g.tape.trans h.os.only.tape, g.output.trans h.os.only.output, Nat.le_trans h.os.only.size g.size, fun b hb hs => (g.block b (Nat.lt_of_lt_of_le hs h.os.only.size) (hne b (by omega))).trans (h.os.only.block b hb hs)⟩
theorem NS.cell {w wr : World} {p c k : Nat} {s : ByteArray} {v : Value} {ps : List ByteArray} (h : NS w p c s k v ps wr) : wr.cell? ⟨w.heap.size, 0, none⟩ = some (.pointer (some ⟨p, 0, none⟩)) := h.os.cells.1
theorem more_pref {s : ByteArray} {j : Nat} (h : more (s.data.toList.drop j) = true) : Lib.hasPrefix (s.data.toList.drop j) [36] = true ∧ j + 1 < s.size := by
  rw [more_at, Bool.and_eq_true] at h
  refine ⟨h.1, ?_⟩
  rcases Nat.lt_or_ge (j + 1) s.size with g | g
  · exact g
  · rw [bt_out s (j + 1) g] at h; exact absurd h.2 (by decide)
theorem joinP_snoc_len (ps : List ByteArray) (t : List UInt8) (h : ps ≠ []) : (joinP (ps ++ [⟨t.toArray⟩])).length = (joinP ps).length + 1 + t.length := by
  rw [joinP_snoc _ _ h, List.length_append, List.length_cons]
  show _ + (t.length + 1) = _
  omega
set_option maxHeartbeats 4000000 in
theorem name_any (p c k : Nat) (s : ByteArray) (w : World) (h : ScAt w p c s k) (hs : s.size ≤ 100000) (h1 : 1 ≤ ((s.data.toList.drop k).takeWhile isNam).length) :
    Calls Tryz.prog 17 #[.agg #[.pointer (some ⟨p, 0, none⟩)]] w (TokPost c s k (nameL (nmL (s.data.toList.drop k))) w) := by
  have hcl := h.cur.lt
  have hpl := h.lt
  have hkl := h.cur.le
  have hsm : s.size ≤ maxLen := by unfold maxLen; omega
  have H := Lib.hid h
  clear h
  have PT := Lib.hid fun w1 j hw => part_any p c j s w1 hw hsm
  have PF := Lib.hid fun w1 j hw => follows_any p c j s w1 hw hsm
  have us : (nameL (nmL (s.data.toList.drop k))).err = 0 → (nameL (nmL (s.data.toList.drop k))).used = (nmL (s.data.toList.drop k)).length := by
    unfold nameL; split
    · intro h; cases h
    · intro _; rfl
  have US := Lib.hid us
  have HZ := Lib.hid fun j => tw_size isNam s j
  have HZL := Lib.hid fun j => ba_len ((s.data.toList.drop j).takeWhile isNam)
  have hlL : (nmL (s.data.toList.drop k)).length ≤ s.size - k := by have := nm_len (s.data.toList.drop k); rw [List.length_drop, len_size] at this; exact this
  clear us
  generalize hf : nameL (nmL (s.data.toList.drop k)) = f
  have HF := Lib.hid hf
  clear hf
  go_enter Tryz.func17, Tryz.ntmps17
  go_wp2_with fail
  refine (PT.out _ k ((H.out.alloc _).alloc _)).mono ?_
  have BZ := Lib.hid (BoxZ.new w p)
  have H0 := Lib.hid ((H.out.alloc (.cells #[.pointer (some ⟨p, 0, none⟩)] 38)).alloc (.cells #[.int .i64 0, .string ⟨#[]⟩, .int .i64 0, .bool false, .int .i64 0, .int .i64 0, .int .i64 0] 34))
  generalize (w.alloc (.cells #[.pointer (some ⟨p, 0, none⟩)] 38)).alloc (.cells #[.int .i64 0, .string ⟨#[]⟩, .int .i64 0, .bool false, .int .i64 0, .int .i64 0, .int .i64 0] 34) = w0 at BZ H0
  rintro e w1 ⟨rfl, c1, o1⟩
  have S1 := Lib.hid ((OS.start BZ.out H0.out).next hcl o1 c1)
  have x1 := S1.out.cells.1
  clear c1 o1
  go_wp2_with fail
  have hw1 : w.heap.size + 2 ≤ w1.heap.size := S1.out.tok.lt
  have hz0 := HZ.out k
  have N1 := Lib.hid (show NS w p c s (k + ((s.data.toList.drop k).takeWhile isNam).length) (.slice (some ⟨w1.heap.size, 0, none⟩) 1 1) [⟨((s.data.toList.drop k).takeWhile isNam).toArray⟩] (w1.alloc (.cells #[.string ⟨((s.data.toList.drop k).takeWhile isNam).toArray⟩] 9)) from
    ⟨S1.out.below ((Below.refl _ _).alloc (Nat.le_refl _) _), (OwnS.lit w1 [⟨((s.data.toList.drop k).takeWhile isNam).toArray⟩] (by simp [maxLen])).mono hw1, hcl, hpl⟩)
  generalize w1.alloc (.cells #[.string ⟨((s.data.toList.drop k).takeWhile isNam).toArray⟩] 9) = w2 at N1 ⊢
  clear x1 S1 hw1
  go_loopw [4] (fun v wr => ∃ (j : Nat) (ps : List ByteArray), NS w p c s j v ps wr ∧ Parts (s.data.toList.drop k) ps (s.data.toList.drop j) ∧ ps.length ≤ j ∧ (∀ x ∈ ps, x.size ≤ 100000) ∧ j = k + (joinP ps).length) (fun _ wr => leftOf s c wr)
  case atStart =>
    refine ⟨_, _, N1.out, ?_, by simp; omega, by intro x hx; simp at hx; subst hx; omega, by rw [joinP_one]⟩
    have := Parts.first (s.data.toList.drop k)
    rw [dw_dr, List.drop_drop] at this
    exact this
  case round =>
    obtain ⟨j, ps, hn, hpt, hlen, hsz, hj⟩ := hrel
    have N := Lib.hid hn
    have PP := Lib.hid hpt
    have HS := Lib.hid hsz
    have hjl := hn.os.sc.cur.le
    have xn := hn.cell
    clear hn hpt hsz N1
    cases hm : more (s.data.toList.drop j) with
    | true =>
      obtain ⟨hp36, hj1⟩ := more_pref hm
      have PPn := Lib.hid (PP.out.next hm)
      have hPF := fun w1 hw => PF.out w1 j hw
      rw [hm] at hPF
      have HPF := Lib.hid hPF
      have HTK := Lib.hid fun w1 hw => take_yes p c j s ⟨#[36]⟩ w1 hw hsm hp36
      have hzj := HZ.out (j + 1)
      have hzl := HZL.out (j + 1)
      have HJL := Lib.hid (joinP_snoc_len ps ((s.data.toList.drop (j + 1)).takeWhile isNam) PP.out.ne)
      clear hPF hp36 hm
      go_wp2_with fail
      refine (HPF.out _ N.out.os.sc).mono ?_
      rintro e w3 ⟨rfl, b3⟩
      have N3 := Lib.hid (N.out.below b3)
      have x3 := N3.out.cell
      clear b3 xn
      go_wp2_with fail
      refine (HTK.out _ N3.out.os.sc).mono ?_
      rintro e w4 ⟨rfl, c4, o4⟩
      have c4 : CurAt w4 c s (j + 1) := c4
      have N4 := Lib.hid (N3.out.next o4 c4)
      have x4 := N4.out.cell
      clear c4 o4 x3
      go_wp2_with fail
      refine (PT.out _ (j + 1) N4.out.os.sc).mono ?_
      rintro e w5 ⟨rfl, c5, o5⟩
      have N5 := Lib.hid (N4.out.next o5 c5)
      have hc5 := N5.out.os.sc.cur.le
      have hb5 : w.heap.size + 2 ≤ w5.heap.size := N5.out.os.tok.lt
      clear c5 o5 x4
      have ON := Lib.hid (N5.out.own.below ((Below.refl _ _).alloc (Nat.le_refl _) (.cells #[.string ⟨((s.data.toList.drop (j + 1)).takeWhile isNam).toArray⟩] 9)))
      have hba : w.heap.size + 2 ≤ (w5.alloc (.cells #[.string ⟨((s.data.toList.drop (j + 1)).takeWhile isNam).toArray⟩] 9)).heap.size := by simp; omega
      have SN := Lib.hid (lit_strs w5 [⟨((s.data.toList.drop (j + 1)).takeWhile isNam).toArray⟩] (by simp [maxLen]) (by intro x hx; simp at hx; subst hx; unfold maxLen; omega))
      have hbb : ps.length + 1 ≤ 100000 := by omega
      have NN := Lib.hid (N5.out.below ((Below.refl _ _).alloc (Nat.le_refl _) (.cells #[.string ⟨((s.data.toList.drop (j + 1)).takeWhile isNam).toArray⟩] 9)))
      have HJ := Lib.hid hj
      have HBA := Lib.hid hba
      have HZJ := Lib.hid (show ((s.data.toList.drop (j + 1)).takeWhile isNam).length ≤ 100000 by omega)
      clear hj hba hzj
      have tok1 : True := trivial
      go_wp2_with (have _t := tok1; at_builtin; refine wp_appS rfl (.tmp 13) (.tmp 16) rfl ON.out HBA.out SN.out rfl rfl hbb ?_; intro v7 w7 o7 g7; have N7 := Lib.hid (NN.out.app g7 o7); clear o7 g7 tok1)
      go_roundw
      case rel =>
        refine ⟨_, _, N7.out, ?_, by simp; omega, ?_, ?_⟩
        · have := PPn.out
          rw [List.drop_drop, dw_dr, List.drop_drop] at this
          exact this
        · intro x hx
          rcases List.mem_append.1 hx with h | h
          · exact HS.out x h
          · simp at h; subst h; have := HZJ.out; omega
        · have := HJ.out; rw [HJL.out]; omega
      case measure =>
        rw [leftOf_at N7.out.os.sc.cur, leftOf_at N.out.os.sc.cur]
        omega
    | false =>
      have hPF := fun w1 hw => PF.out w1 j hw
      rw [hm] at hPF
      have HPF := Lib.hid hPF
      have hnf := PP.out.last hm
      rw [HF.out] at hnf
      have hju := Lib.hid (PP.out.used hm)
      have HJ := Lib.hid hj
      have hjb : (joinP ps).length ≤ 100000 := by omega
      have HNF := Lib.hid hnf
      have hps0 : 0 < ps.length := List.length_pos_iff.2 PP.out.ne
      obtain ⟨a, cap, rfl, hS⟩ := N.out.own.strs (fun x hx => by have := HS.out x hx; unfold maxLen; omega)
      have SS := Lib.hid hS
      clear hPF hm hnf hS hj
      go_wp2_with fail
      refine (HPF.out _ N.out.os.sc).mono ?_
      rintro e w3 ⟨rfl, b3⟩
      have N3 := Lib.hid (N.out.below b3)
      have S3 := Lib.hid (SS.out.below b3)
      have x3 := N3.out.cell
      clear b3 xn
      go_wp2_with fail
      refine (name_tok p c j s ps a ps.length cap _ N3.out.os.sc S3.out hps0 (by omega) (by omega)).mono ?_
      rw [HNF.out]
      unfold TokB tokV
      rintro e w4 ⟨rfl, b4⟩
      have N4 := Lib.hid (N3.out.below b4)
      obtain ⟨g0, g1, g2, g3, g4, g5, g6, gf⟩ := N4.out.os.tok.facts
      clear b4 x3
      go_wp2_with fail
      refine bodyPost_ret (v := .tuple #[tokV f, .int .i64 (f.err : Nat)]) (by simp [results, Tryz.results17, go_sem, tokV, g0, g1, g2, g3, g4, g5, g6]) rfl (post7 (f := f) (by omega) (by omega) N4.out.os.only (fun h => ?_) _ _ _ _ _ _ _)
      have e := US.out (by rw [HF.out]; exact h)
      rw [HF.out] at e
      rw [e, ← hju.out, ← HJ.out]
      exact N4.out.os.sc.cur
end Go.Proofs.YtjdmaindoohmkaaGreatDoor
