/-
  The lexer's own readers, walked: a char.
-/
import Derived.Test.YtjdmaindoohmkaaGreatDoorSg
import Derived.Test.YtjdmaindoohmkaaGreatDoorPi
namespace Go.Proofs.YtjdmaindoohmkaaGreatDoor
open Go.RowKit Go.Sort

/-- A box that holds the scanner's place, and a token that is zero behind it. -/
structure BoxZ (w w0 : World) (p : Nat) (q : Nat) : Prop where
  blk : w0.heap[q]? = some (.cells #[.pointer (some ⟨p, 0, none⟩)] 38)
  tok : TokZ w0 (q + 1)
  bel : Below w.heap.size w w0
  le : w.heap.size ≤ q
theorem BoxZ.lt {w w0 : World} {p q : Nat} (h : BoxZ w w0 p q) : q < w0.heap.size := heap_lt h.blk
theorem BoxZ.cell {w w0 : World} {p q : Nat} (h : BoxZ w w0 p q) : w0.cell? ⟨q, 0, none⟩ = some (.pointer (some ⟨p, 0, none⟩)) := by simp [World.cell?, h.blk]
theorem BoxZ.new (w : World) (p : Nat) : BoxZ w ((w.alloc (.cells #[.pointer (some ⟨p, 0, none⟩)] 38)).alloc (.cells #[.int .i64 0, .string ⟨#[]⟩, .int .i64 0, .bool false, .int .i64 0, .int .i64 0, .int .i64 0] 34)) p w.heap.size := by
  have e : (w.alloc (.cells #[.pointer (some ⟨p, 0, none⟩)] 38)).heap.size = w.heap.size + 1 := by simp
  have hz := TokZ.new (w.alloc (.cells #[.pointer (some ⟨p, 0, none⟩)] 38))
  rw [e] at hz
  refine ⟨?_, hz, ((Below.refl _ _).alloc (Nat.le_refl _) _).alloc (by simp) _, Nat.le_refl _⟩
  rw [((Below.refl _ (w.alloc (.cells #[.pointer (some ⟨p, 0, none⟩)] 38))).alloc (Nat.le_refl _) _).block w.heap.size (by simp), heap_new]
theorem BoxZ.cell' {w w0 w1 : World} {p q c : Nat} (h : BoxZ w w0 p q) (o : Only c w0 w1) (hn : q ≠ c) : w1.cell? ⟨q, 0, none⟩ = some (.pointer (some ⟨p, 0, none⟩)) := by
  rw [cell_eq (o.block q hn h.lt)]; exact h.cell

/-- The state of own: the scanner, the box, the token that is zero. -/
structure OS (w : World) (p c : Nat) (s : ByteArray) (k : Nat) (w1 : World) : Prop where
  sc : ScAt w1 p c s k
  box : w1.heap[w.heap.size]? = some (.cells #[.pointer (some ⟨p, 0, none⟩)] 38)
  tok : TokZ w1 (w.heap.size + 1)
  only : Only c w w1
theorem OS.start {w w0 : World} {p c k : Nat} {s : ByteArray} (h : BoxZ w w0 p w.heap.size) (g : ScAt w0 p c s k) : OS w p c s k w0 := ⟨g, h.blk, h.tok, Only.ofBelow h.bel (Nat.le_refl _)⟩
theorem OS.drew {w w1 : World} {p c k : Nat} {s : ByteArray} (h : OS w p c s k w1) : OS w p c s k w1.drew :=
  ⟨⟨⟨h.sc.cur.le, h.sc.cur.blk⟩, h.sc.blk, h.sc.ne, ⟨h.sc.var.syn, h.sc.var.rng⟩, h.sc.vs⟩, h.box, ⟨h.tok.blk⟩, ⟨h.only.os, h.only.tape, h.only.output, h.only.size, h.only.block⟩⟩
theorem OS.next {w w1 w2 : World} {p c k j : Nat} {s : ByteArray} (h : OS w p c s k w1) (hc : c < w.heap.size) (o : Only c w1 w2) (cu : CurAt w2 c s j) : OS w p c s j w2 :=
  ⟨h.sc.only o cu, (o.block _ (by omega) (heap_lt h.box)).trans h.box, h.tok.only o (by omega), h.only.trans o⟩
theorem OS.below {w w1 w2 : World} {p c k : Nat} {s : ByteArray} (h : OS w p c s k w1) (b : Below w1.heap.size w1 w2) : OS w p c s k w2 :=
  ⟨h.sc.below b, (b.block _ (heap_lt h.box)).trans h.box, h.tok.below b, h.only.belowR b⟩
theorem OS.cells {w w1 : World} {p c k : Nat} {s : ByteArray} (h : OS w p c s k w1) : w1.cell? ⟨w.heap.size, 0, none⟩ = some (.pointer (some ⟨p, 0, none⟩)) ∧ w1.cell? ⟨p, 0, none⟩ = some (.pointer (some ⟨c, 0, none⟩)) :=
  ⟨by simp [World.cell?, h.box], h.sc.c0⟩
/-- A char by its number, from its first digit on. -/
def hex3 (x : List UInt8) : Fd := if (isHex (x.getD 0 0) && isHex (x.getD 1 0) && x.getD 2 0 == 39) = true then ⟨4, [], hexV (x.getD 0 0) * 16 + hexV (x.getD 1 0), 6, 0⟩ else bad 7
theorem hexL_at (s : ByteArray) (k : Nat) : hexL (s.data.toList.drop k) = hex3 (s.data.toList.drop (k + 3)) := by
  unfold hexL hex3
  rw [getD_drop, getD_drop, getD_drop, getD_drop, getD_drop, getD_drop]
theorem hex3_two {x : List UInt8} {a b : UInt8} (h : x.takeWhile isHex = [a, b]) : hex3 x = if Lib.hasPrefix (x.drop 2) [39] = true then ⟨4, [], hexV a * 16 + hexV b, 6, 0⟩ else bad 7 := by
  match x, h with
  | [], h => cases h
  | [x0], h =>
    rw [List.takeWhile_cons] at h
    split at h <;> cases h
  | x0 :: x1 :: q, h =>
    rw [List.takeWhile_cons, List.takeWhile_cons] at h
    cases h0 : isHex x0 with
    | false => rw [h0, if_neg (by decide)] at h; cases h
    | true =>
      rw [h0, if_pos rfl] at h
      cases h1 : isHex x1 with
      | false => rw [h1, if_neg (by decide)] at h; cases h
      | true =>
        rw [h1, if_pos rfl] at h
        have j1 := List.cons.inj h
        have j2 := List.cons.inj j1.2
        rw [← j1.1, ← j2.1]
        unfold hex3
        rw [show (x0 :: x1 :: q).getD 0 0 = x0 from rfl, show (x0 :: x1 :: q).getD 1 0 = x1 from rfl, h0, h1, Bool.and_self, Bool.true_and]
        show (if (q.getD 0 0 == 39) = true then _ else _) = if Lib.hasPrefix q [39] = true then _ else _
        cases q with
        | nil => rfl
        | cons c r =>
          rw [hp_cons, hp_nil, Bool.and_true, show ((39 : UInt8) == c) = (c == 39) from Bool.beq_comm]
          rfl
theorem hex3_bad {x : List UInt8} (h : (x.takeWhile isHex).length ≠ 2) : hex3 x = bad 7 := by
  unfold hex3
  split
  · rename_i hc
    exfalso
    apply h
    rw [Bool.and_eq_true, Bool.and_eq_true] at hc
    match x, hc with
    | [], hc => exact absurd hc.2 (by decide)
    | [_], hc => exact absurd hc.2 (by simp)
    | [_, _], hc => exact absurd hc.2 (by simp)
    | x0 :: x1 :: x2 :: q, hc =>
      have e0 : isHex x0 = true := hc.1.1
      have e1 : isHex x1 = true := hc.1.2
      have e2 : x2 = 39 := by simpa using hc.2
      subst e2
      rw [List.takeWhile_cons, if_pos e0, List.takeWhile_cons, if_pos e1, List.takeWhile_cons, if_neg (by decide)]
      rfl
  · rfl
set_option maxHeartbeats 2000000 in
theorem numbered_tok (p c k : Nat) (s : ByteArray) (w : World) (h : ScAt w p c s (k + 3)) (hs : s.size ≤ 100000) :
    Calls Tryz.prog 36 #[.agg #[.pointer (some ⟨p, 0, none⟩)]] w (TokPost c s k (hexL (s.data.toList.drop k)) w) := by
  have hcl := h.cur.lt
  have hpl := h.lt
  have hsm : s.size ≤ maxLen := by unfold maxLen; omega
  have H := Lib.hid h
  clear h
  rw [hexL_at]
  have hW := fun w1 hc => while_tw c (k + 3) s setH isHex w1 hc hsm (by decide) setH_is
  have hall := fun c hc => tw_mem isHex (s.data.toList.drop (k + 3)) c hc
  have hz := tw_size isHex s (k + 3)
  have hzl := ba_len ((s.data.toList.drop (k + 3)).takeWhile isHex)
  have h00 := H.out.c0
  by_cases h2 : ((s.data.toList.drop (k + 3)).takeWhile isHex).length = 2
  · obtain ⟨a, b, hab⟩ : ∃ a b, (s.data.toList.drop (k + 3)).takeWhile isHex = [a, b] := by
      match h3 : (s.data.toList.drop (k + 3)).takeWhile isHex, h2 with
      | [a, b], _ => exact ⟨a, b, rfl⟩
    rw [hex3_two hab, List.drop_drop]
    rw [hab] at hall hW hzl
    have HP := Lib.hid fun w1 hv => parse_any [a, b] w1 hall (by simp) hv
    have HW := Lib.hid hW
    have hval : valH [a, b] = hexV a * 16 + hexV b := by simp [valH]
    have hsmall : hexV a * 16 + hexV b ≤ 255 := by
      have h1 := hex_cases a (hall a (by simp))
      have h2 := hex_cases b (hall b (by simp))
      omega
    have hsz2 : (ByteArray.mk [a, b].toArray).size = 2 := hzl
    generalize hT : (ByteArray.mk [a, b].toArray) = T at *
    have d2 : ((T.size : Int) != 2) = false := by rw [hsz2]; rfl
    have hvn : ¬ 1152921504606846976 ≤ valH [a, b] := by omega
    rw [← hval] at hsmall ⊢
    unfold ParsePost at HP
    generalize valH [a, b] = v at HP hvn hsmall ⊢
    have HVN := Lib.hid hvn
    clear hab h2 hall hz hzl hW hval hT hvn
    cases hq : Lib.hasPrefix (s.data.toList.drop (k + 3 + 2)) [39] with
    | true =>
      rw [if_pos rfl]
      have HTK := Lib.hid fun w1 hw => take_yes p c (k + 3 + 2) s ⟨#[39]⟩ w1 hw hsm hq
      clear hq
      go_enter Tryz.func36, Tryz.ntmps36
      go_wp2_with fail
      refine (HW.out _ ((H.out.alloc _).alloc _).cur).mono ?_
      have BZ := Lib.hid (BoxZ.new w p)
      have H0 := Lib.hid ((H.out.alloc (.cells #[.pointer (some ⟨p, 0, none⟩)] 38)).alloc (.cells #[.int .i64 0, .string ⟨#[]⟩, .int .i64 0, .bool false, .int .i64 0, .int .i64 0, .int .i64 0] 34))
      generalize (w.alloc (.cells #[.pointer (some ⟨p, 0, none⟩)] 38)).alloc (.cells #[.int .i64 0, .string ⟨#[]⟩, .int .i64 0, .bool false, .int .i64 0, .int .i64 0, .int .i64 0] 34) = w0 at BZ H0
      rintro e w1 ⟨rfl, c1, o1⟩
      have c1 : CurAt w1 c s (k + 3 + 2) := c1
      have S1 := Lib.hid ((OS.start BZ.out H0.out).next hcl o1 c1)
      clear h00 c1 o1
      go_wp2_with fail
      refine (HP.out _ S1.out.sc.var).mono ?_
      rintro e w2 ⟨(rfl | ⟨⟨n, tp, q, rfl⟩, hbad⟩), b2⟩
      · have S2 := Lib.hid (S1.out.below b2)
        have x2 := S2.out.cells.1
        clear b2
        go_wp2_with fail
        refine (HTK.out _ S2.out.sc).mono ?_
        rintro e w3 ⟨rfl, c3, o3⟩
        have c3 : CurAt w3 c s (k + 6) := c3
        have S3 := Lib.hid (S2.out.next hcl o3 c3)
        clear c3 o3 x2
        go_wp2_with fail
        refine (char_any _ _).mono ?_
        rintro e w8 ⟨rfl, b8⟩
        have S8 := Lib.hid (S3.out.below b8)
        clear b8
        obtain ⟨g0, g1, g2, g3, g4, g5, g6, gf⟩ := S8.out.tok.facts
        go_wp2_with fail
        exact bodyPost_ret (v := .tuple #[tokV ⟨4, [], v, 6, 0⟩, .int .i64 0]) (by simp [results, Tryz.results36, go_sem, tokV, g0, g1, g2, g3, g4, g5, g6]) rfl (post7 (f := ⟨4, [], v, 6, 0⟩) (by omega) (by omega) S8.out.only (fun _ => S8.out.sc.cur) _ _ _ _ _ _ _)
      · rcases hbad with h | h
        · cases h
        · exact absurd h HVN.out
    | false =>
      rw [if_neg (by decide)]
      have HTK := Lib.hid fun w1 hw => take_no p c (k + 3 + 2) s ⟨#[39]⟩ w1 hw hq
      clear hq
      go_enter Tryz.func36, Tryz.ntmps36
      go_wp2_with fail
      refine (HW.out _ ((H.out.alloc _).alloc _).cur).mono ?_
      have BZ := Lib.hid (BoxZ.new w p)
      have H0 := Lib.hid ((H.out.alloc (.cells #[.pointer (some ⟨p, 0, none⟩)] 38)).alloc (.cells #[.int .i64 0, .string ⟨#[]⟩, .int .i64 0, .bool false, .int .i64 0, .int .i64 0, .int .i64 0] 34))
      generalize (w.alloc (.cells #[.pointer (some ⟨p, 0, none⟩)] 38)).alloc (.cells #[.int .i64 0, .string ⟨#[]⟩, .int .i64 0, .bool false, .int .i64 0, .int .i64 0, .int .i64 0] 34) = w0 at BZ H0
      rintro e w1 ⟨rfl, c1, o1⟩
      have c1 : CurAt w1 c s (k + 3 + 2) := c1
      have S1 := Lib.hid ((OS.start BZ.out H0.out).next hcl o1 c1)
      clear h00 c1 o1
      go_wp2_with fail
      refine (HP.out _ S1.out.sc.var).mono ?_
      rintro e w2 ⟨(rfl | ⟨⟨n, tp, q, rfl⟩, hbad⟩), b2⟩
      · have S2 := Lib.hid (S1.out.below b2)
        have x2 := S2.out.cells.1
        clear b2
        go_wp2_with fail
        refine (HTK.out _ S2.out.sc).mono ?_
        rintro e w3 ⟨rfl, b3⟩
        have S3 := Lib.hid (S2.out.below b3)
        clear b3 x2
        obtain ⟨g0, g1, g2, g3, g4, g5, g6, gf⟩ := S3.out.tok.facts
        go_wp2_with fail
        exact bodyPost_ret (v := .tuple #[tokV (bad 7), .int .i64 7]) (by simp [results, Tryz.results36, go_sem, tokV, bad, g0, g1, g2, g3, g4, g5, g6]) rfl (post7 (f := (bad 7)) (by omega) (by omega) S3.out.only (fun h => by cases h) _ _ _ _ _ _ _)
      · rcases hbad with h | h
        · cases h
        · exact absurd h HVN.out
  · rw [hex3_bad h2]
    have HP := Lib.hid fun w1 hv => parse_any ((s.data.toList.drop (k + 3)).takeWhile isHex) w1 hall (by omega) hv
    have HW := Lib.hid hW
    have d2 : (((ByteArray.mk ((s.data.toList.drop (k + 3)).takeWhile isHex).toArray).size : Int) != 2) = true := by rw [hzl]; simp; omega
    unfold ParsePost at HP
    generalize (ByteArray.mk ((s.data.toList.drop (k + 3)).takeWhile isHex).toArray) = T at *
    generalize valH ((s.data.toList.drop (k + 3)).takeWhile isHex) = v at HP
    generalize (s.data.toList.drop (k + 3)).takeWhile isHex = ds at HP HW
    clear h2 hall hz hzl hW
    go_enter Tryz.func36, Tryz.ntmps36
    go_wp2_with fail
    refine (HW.out _ ((H.out.alloc _).alloc _).cur).mono ?_
    have BZ := Lib.hid (BoxZ.new w p)
    have H0 := Lib.hid ((H.out.alloc (.cells #[.pointer (some ⟨p, 0, none⟩)] 38)).alloc (.cells #[.int .i64 0, .string ⟨#[]⟩, .int .i64 0, .bool false, .int .i64 0, .int .i64 0, .int .i64 0] 34))
    generalize (w.alloc (.cells #[.pointer (some ⟨p, 0, none⟩)] 38)).alloc (.cells #[.int .i64 0, .string ⟨#[]⟩, .int .i64 0, .bool false, .int .i64 0, .int .i64 0, .int .i64 0] 34) = w0 at BZ H0
    rintro e w1 ⟨rfl, c1, o1⟩
    have S1 := Lib.hid ((OS.start BZ.out H0.out).next hcl o1 c1)
    clear h00 c1 o1
    go_wp2_with fail
    refine (HP.out _ S1.out.sc.var).mono ?_
    rintro e w2 ⟨(rfl | ⟨⟨n, tp, q, rfl⟩, hbad⟩), b2⟩
    · have S2 := Lib.hid (S1.out.below b2)
      clear b2
      obtain ⟨g0, g1, g2, g3, g4, g5, g6, gf⟩ := S2.out.tok.facts
      go_wp2_with fail
      exact bodyPost_ret (v := .tuple #[tokV (bad 7), .int .i64 7]) (by simp [results, Tryz.results36, go_sem, tokV, bad, g0, g1, g2, g3, g4, g5, g6]) rfl (post7 (f := (bad 7)) (by omega) (by omega) S2.out.only (fun h => by cases h) _ _ _ _ _ _ _)
    · have S2 := Lib.hid (S1.out.below b2)
      clear b2 hbad
      obtain ⟨g0, g1, g2, g3, g4, g5, g6, gf⟩ := S2.out.tok.facts
      go_wp2_with fail
      exact bodyPost_ret (v := .tuple #[tokV (bad 7), .int .i64 7]) (by simp [results, Tryz.results36, go_sem, tokV, bad, g0, g1, g2, g3, g4, g5, g6]) rfl (post7 (f := (bad 7)) (by omega) (by omega) S2.out.only (fun h => by cases h) _ _ _ _ _ _ _)

theorem quoteL_1 {l : List UInt8} (h : Lib.hasPrefix l [39, 92, 39, 39] = true) : quoteL l = ⟨4, [], 39, 4, 0⟩ := by unfold quoteL; rw [if_pos h]
theorem quoteL_2 {l : List UInt8} (h1 : Lib.hasPrefix l [39, 92, 39, 39] = false) (h : Lib.hasPrefix l [39, 92, 92, 39] = true) : quoteL l = ⟨4, [], 92, 4, 0⟩ := by unfold quoteL; rw [h1, if_neg (by decide), if_pos h]
theorem quoteL_3 {l : List UInt8} (h1 : Lib.hasPrefix l [39, 92, 39, 39] = false) (h2 : Lib.hasPrefix l [39, 92, 92, 39] = false) (h : Lib.hasPrefix l [39, 92, 120] = true) : quoteL l = hexL l := by unfold quoteL; rw [h1, if_neg (by decide), h2, if_neg (by decide), if_pos h]
theorem quoteL_4 {l : List UInt8} (h1 : Lib.hasPrefix l [39, 92, 39, 39] = false) (h2 : Lib.hasPrefix l [39, 92, 92, 39] = false) (h : Lib.hasPrefix l [39, 92, 120] = false) : quoteL l = quote1 l := by unfold quoteL; rw [h1, if_neg (by decide), h2, if_neg (by decide), h, if_neg (by decide)]
set_option maxHeartbeats 2000000 in
theorem quoted_tok (p c k : Nat) (s : ByteArray) (w : World) (h : ScAt w p c s k) (hs : s.size ≤ 100000) :
    Calls Tryz.prog 18 #[.agg #[.pointer (some ⟨p, 0, none⟩)]] w (TokPost c s k (quoteL (s.data.toList.drop k)) w) := by
  have hcl := h.cur.lt
  have hpl := h.lt
  have hsm : s.size ≤ maxLen := by unfold maxLen; omega
  have H := Lib.hid h
  clear h
  cases q1 : Lib.hasPrefix (s.data.toList.drop k) [39, 92, 39, 39] with
  | true =>
    rw [quoteL_1 q1]
    have HT := Lib.hid fun w1 hw => take_yes p c k s ⟨#[39, 92, 39, 39]⟩ w1 hw hsm q1
    clear q1
    go_enter Tryz.func18, Tryz.ntmps18
    go_wp2_with fail
    refine (HT.out _ ((H.out.alloc _).alloc _)).mono ?_
    have BZ := Lib.hid (BoxZ.new w p)
    have H0 := Lib.hid ((H.out.alloc (.cells #[.pointer (some ⟨p, 0, none⟩)] 38)).alloc (.cells #[.int .i64 0, .string ⟨#[]⟩, .int .i64 0, .bool false, .int .i64 0, .int .i64 0, .int .i64 0] 34))
    generalize (w.alloc (.cells #[.pointer (some ⟨p, 0, none⟩)] 38)).alloc (.cells #[.int .i64 0, .string ⟨#[]⟩, .int .i64 0, .bool false, .int .i64 0, .int .i64 0, .int .i64 0] 34) = w0 at BZ H0
    rintro e w1 ⟨rfl, c1, o1⟩
    have c1 : CurAt w1 c s (k + 4) := c1
    have S1 := Lib.hid ((OS.start BZ.out H0.out).next hcl o1 c1)
    clear c1 o1
    go_wp2_with fail
    refine (char_any _ _).mono ?_
    rintro e w8 ⟨rfl, b8⟩
    have S8 := Lib.hid (S1.out.below b8)
    clear b8
    obtain ⟨g0, g1, g2, g3, g4, g5, g6, gf⟩ := S8.out.tok.facts
    go_wp2_with fail
    exact bodyPost_ret (v := .tuple #[tokV ⟨4, [], 39, 4, 0⟩, .int .i64 0]) (by simp [results, Tryz.results18, go_sem, tokV, g0, g1, g2, g3, g4, g5, g6]) rfl (post7 (f := ⟨4, [], 39, 4, 0⟩) (by omega) (by omega) S8.out.only (fun _ => S8.out.sc.cur) _ _ _ _ _ _ _)
  | false =>
    have HT := Lib.hid fun w1 hw => take_no p c k s ⟨#[39, 92, 39, 39]⟩ w1 hw q1
    cases q2 : Lib.hasPrefix (s.data.toList.drop k) [39, 92, 92, 39] with
    | true =>
      rw [quoteL_2 q1 q2]
      have HT2 := Lib.hid fun w1 hw => take_yes p c k s ⟨#[39, 92, 92, 39]⟩ w1 hw hsm q2
      clear q1 q2
      go_enter Tryz.func18, Tryz.ntmps18
      go_wp2_with fail
      refine (HT.out _ ((H.out.alloc _).alloc _)).mono ?_
      have BZ := Lib.hid (BoxZ.new w p)
      have H0 := Lib.hid ((H.out.alloc (.cells #[.pointer (some ⟨p, 0, none⟩)] 38)).alloc (.cells #[.int .i64 0, .string ⟨#[]⟩, .int .i64 0, .bool false, .int .i64 0, .int .i64 0, .int .i64 0] 34))
      generalize (w.alloc (.cells #[.pointer (some ⟨p, 0, none⟩)] 38)).alloc (.cells #[.int .i64 0, .string ⟨#[]⟩, .int .i64 0, .bool false, .int .i64 0, .int .i64 0, .int .i64 0] 34) = w0 at BZ H0
      rintro e w1 ⟨rfl, b1⟩
      have S1 := Lib.hid ((OS.start BZ.out H0.out).below b1)
      have x1 := S1.out.cells.1
      clear b1
      go_wp2_with fail
      refine (HT2.out _ S1.out.sc).mono ?_
      rintro e w2 ⟨rfl, c2, o2⟩
      have c2 : CurAt w2 c s (k + 4) := c2
      have S2 := Lib.hid (S1.out.next hcl o2 c2)
      clear c2 o2 x1
      go_wp2_with fail
      refine (char_any _ _).mono ?_
      rintro e w8 ⟨rfl, b8⟩
      have S8 := Lib.hid (S2.out.below b8)
      clear b8
      obtain ⟨g0, g1, g2, g3, g4, g5, g6, gf⟩ := S8.out.tok.facts
      go_wp2_with fail
      exact bodyPost_ret (v := .tuple #[tokV ⟨4, [], 92, 4, 0⟩, .int .i64 0]) (by simp [results, Tryz.results18, go_sem, tokV, g0, g1, g2, g3, g4, g5, g6]) rfl (post7 (f := ⟨4, [], 92, 4, 0⟩) (by omega) (by omega) S8.out.only (fun _ => S8.out.sc.cur) _ _ _ _ _ _ _)
    | false =>
      have HT2 := Lib.hid fun w1 hw => take_no p c k s ⟨#[39, 92, 92, 39]⟩ w1 hw q2
      cases q3 : Lib.hasPrefix (s.data.toList.drop k) [39, 92, 120] with
      | true =>
        rw [quoteL_3 q1 q2 q3]
        have HT3 := Lib.hid fun w1 hw => take_yes p c k s ⟨#[39, 92, 120]⟩ w1 hw hsm q3
        have HN := Lib.hid fun w1 hw => numbered_tok p c k s w1 hw hs
        generalize hexL (s.data.toList.drop k) = f at HN ⊢
        clear q1 q2 q3
        go_enter Tryz.func18, Tryz.ntmps18
        go_wp2_with fail
        refine (HT.out _ ((H.out.alloc _).alloc _)).mono ?_
        have BZ := Lib.hid (BoxZ.new w p)
        have H0 := Lib.hid ((H.out.alloc (.cells #[.pointer (some ⟨p, 0, none⟩)] 38)).alloc (.cells #[.int .i64 0, .string ⟨#[]⟩, .int .i64 0, .bool false, .int .i64 0, .int .i64 0, .int .i64 0] 34))
        generalize (w.alloc (.cells #[.pointer (some ⟨p, 0, none⟩)] 38)).alloc (.cells #[.int .i64 0, .string ⟨#[]⟩, .int .i64 0, .bool false, .int .i64 0, .int .i64 0, .int .i64 0] 34) = w0 at BZ H0
        rintro e w1 ⟨rfl, b1⟩
        have S1 := Lib.hid ((OS.start BZ.out H0.out).below b1)
        have x1 := S1.out.cells.1
        clear b1
        go_wp2_with fail
        refine (HT2.out _ S1.out.sc).mono ?_
        rintro e w2 ⟨rfl, b2⟩
        have S2 := Lib.hid (S1.out.below b2)
        have x2 := S2.out.cells.1
        clear b2 x1
        go_wp2_with fail
        refine (HT3.out _ S2.out.sc).mono ?_
        rintro e w3 ⟨rfl, c3, o3⟩
        have c3 : CurAt w3 c s (k + 3) := c3
        have S3 := Lib.hid (S2.out.next hcl o3 c3)
        have x3 := S3.out.cells.1
        clear c3 o3 x2
        go_wp2_with fail
        refine (HN.out _ S3.out.sc).mono ?_
        unfold TokPost tokV
        rintro e w9 ⟨rfl, o9, c9⟩
        have C9 := Lib.hid c9
        have O9 := Lib.hid (S3.out.only.trans o9)
        have Z9 := Lib.hid (S3.out.tok.only o9 (by omega))
        obtain ⟨g0, g1, g2, g3, g4, g5, g6, gf⟩ := Z9.out.facts
        clear c9 o9
        go_wp2_with fail
        exact bodyPost_ret (v := .tuple #[tokV f, .int .i64 (f.err : Nat)]) (by simp [results, Tryz.results18, go_sem, tokV, g0, g1, g2, g3, g4, g5, g6]) rfl (post7 (f := f) (by omega) (by omega) O9.out C9.out _ _ _ _ _ _ _)
      | false =>
        rw [quoteL_4 q1 q2 q3]
        have HT3 := Lib.hid fun w1 hw => take_no p c k s ⟨#[39, 92, 120]⟩ w1 hw q3
        have HN := Lib.hid fun w1 hw => quoted1_tok p c k s w1 hw hsm
        generalize quote1 (s.data.toList.drop k) = f at HN ⊢
        clear q1 q2 q3
        go_enter Tryz.func18, Tryz.ntmps18
        go_wp2_with fail
        refine (HT.out _ ((H.out.alloc _).alloc _)).mono ?_
        have BZ := Lib.hid (BoxZ.new w p)
        have H0 := Lib.hid ((H.out.alloc (.cells #[.pointer (some ⟨p, 0, none⟩)] 38)).alloc (.cells #[.int .i64 0, .string ⟨#[]⟩, .int .i64 0, .bool false, .int .i64 0, .int .i64 0, .int .i64 0] 34))
        generalize (w.alloc (.cells #[.pointer (some ⟨p, 0, none⟩)] 38)).alloc (.cells #[.int .i64 0, .string ⟨#[]⟩, .int .i64 0, .bool false, .int .i64 0, .int .i64 0, .int .i64 0] 34) = w0 at BZ H0
        rintro e w1 ⟨rfl, b1⟩
        have S1 := Lib.hid ((OS.start BZ.out H0.out).below b1)
        have x1 := S1.out.cells.1
        clear b1
        go_wp2_with fail
        refine (HT2.out _ S1.out.sc).mono ?_
        rintro e w2 ⟨rfl, b2⟩
        have S2 := Lib.hid (S1.out.below b2)
        have x2 := S2.out.cells.1
        clear b2 x1
        go_wp2_with fail
        refine (HT3.out _ S2.out.sc).mono ?_
        rintro e w3 ⟨rfl, b3⟩
        have S3 := Lib.hid (S2.out.below b3)
        have x3 := S3.out.cells.1
        clear b3 x2
        go_wp2_with fail
        refine (HN.out _ S3.out.sc).mono ?_
        unfold TokPost tokV
        rintro e w9 ⟨rfl, o9, c9⟩
        have C9 := Lib.hid c9
        have O9 := Lib.hid (S3.out.only.trans o9)
        have Z9 := Lib.hid (S3.out.tok.only o9 (by omega))
        obtain ⟨g0, g1, g2, g3, g4, g5, g6, gf⟩ := Z9.out.facts
        clear c9 o9
        go_wp2_with fail
        exact bodyPost_ret (v := .tuple #[tokV f, .int .i64 (f.err : Nat)]) (by simp [results, Tryz.results18, go_sem, tokV, g0, g1, g2, g3, g4, g5, g6]) rfl (post7 (f := f) (by omega) (by omega) O9.out C9.out _ _ _ _ _ _ _)
end Go.Proofs.YtjdmaindoohmkaaGreatDoor
