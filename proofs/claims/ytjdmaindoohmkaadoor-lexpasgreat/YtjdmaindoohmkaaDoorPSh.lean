/-
  The lexer's own readers, walked: a char.
-/
import Derived.Test.YtjdmaindoohmkaaDoorPSg
namespace Go.Proofs.YtjdmaindoohmkaaDoor.P
open Go.RowKit Go.Sort

/-- A box that holds the scanner's place, and a token that is zero behind it. -/
structure BoxZ (w w0 : World) (p : Nat) (q : Nat) : Prop where
  blk : w0.heap[q]? = some (.cells #[.pointer (some ⟨p, 0, none⟩)] 48)
  tok : TokZ w0 (q + 1)
  bel : Below w.heap.size w w0
  le : w.heap.size ≤ q
theorem BoxZ.lt {w w0 : World} {p q : Nat} (h : BoxZ w w0 p q) : q < w0.heap.size := heap_lt h.blk
theorem BoxZ.cell {w w0 : World} {p q : Nat} (h : BoxZ w w0 p q) : w0.cell? ⟨q, 0, none⟩ = some (.pointer (some ⟨p, 0, none⟩)) := by simp [World.cell?, h.blk]
theorem BoxZ.new (w : World) (p : Nat) : BoxZ w ((w.alloc (.cells #[.pointer (some ⟨p, 0, none⟩)] 48)).alloc (.cells #[.int .i64 0, .string ⟨#[]⟩, .int .i64 0, .bool false, .int .i64 0, .int .i64 0, .int .i64 0] 38)) p w.heap.size := by
  have e : (w.alloc (.cells #[.pointer (some ⟨p, 0, none⟩)] 48)).heap.size = w.heap.size + 1 := by simp
  have hz := TokZ.new (w.alloc (.cells #[.pointer (some ⟨p, 0, none⟩)] 48))
  rw [e] at hz
  refine ⟨?_, hz, ((Below.refl _ _).alloc (Nat.le_refl _) _).alloc (by simp) _, Nat.le_refl _⟩
  rw [((Below.refl _ (w.alloc (.cells #[.pointer (some ⟨p, 0, none⟩)] 48))).alloc (Nat.le_refl _) _).block w.heap.size (by simp), heap_new]
theorem BoxZ.cell' {w w0 w1 : World} {p q c : Nat} (h : BoxZ w w0 p q) (o : Only c w0 w1) (hn : q ≠ c) : w1.cell? ⟨q, 0, none⟩ = some (.pointer (some ⟨p, 0, none⟩)) := by
  rw [cell_eq (o.block q hn h.lt)]; exact h.cell

theorem quoteL_4 {l : List UInt8} (h : Lib.hasPrefix l [39, 39, 39, 39] = true) : quoteL l = ⟨4, [], 39, 4, 0⟩ := by unfold quoteL; rw [if_pos h]
theorem quoteL_1 (s : ByteArray) (k : Nat) (h : Lib.hasPrefix (s.data.toList.drop k) [39, 39, 39, 39] = false) : quoteL (s.data.toList.drop k) = quote1 s k := by
  unfold quoteL; rw [h, if_neg (by decide), getD_drop, getD_drop]; rfl
/-- The state of own: the scanner, the box, the token that is zero. -/
structure OS (w : World) (p c : Nat) (s : ByteArray) (k : Nat) (w1 : World) : Prop where
  sc : ScAt w1 p c s k
  box : w1.heap[w.heap.size]? = some (.cells #[.pointer (some ⟨p, 0, none⟩)] 48)
  tok : TokZ w1 (w.heap.size + 1)
  only : Only c w w1
theorem OS.start {w w0 : World} {p c k : Nat} {s : ByteArray} (h : BoxZ w w0 p w.heap.size) (g : ScAt w0 p c s k) : OS w p c s k w0 := ⟨g, h.blk, h.tok, Only.ofBelow h.bel (Nat.le_refl _)⟩
theorem OS.drew {w w1 : World} {p c k : Nat} {s : ByteArray} (h : OS w p c s k w1) : OS w p c s k w1.drew :=
  ⟨⟨⟨h.sc.cur.le, h.sc.cur.blk⟩, h.sc.blk, h.sc.ne⟩, h.box, ⟨h.tok.blk⟩, ⟨h.only.os, h.only.tape, h.only.output, h.only.size, h.only.block⟩⟩
theorem OS.next {w w1 w2 : World} {p c k j : Nat} {s : ByteArray} (h : OS w p c s k w1) (hc : c < w.heap.size) (o : Only c w1 w2) (cu : CurAt w2 c s j) : OS w p c s j w2 :=
  ⟨h.sc.only o cu, (o.block _ (by omega) (heap_lt h.box)).trans h.box, h.tok.only o (by omega), h.only.trans o⟩
theorem OS.below {w w1 w2 : World} {p c k : Nat} {s : ByteArray} (h : OS w p c s k w1) (b : Below w1.heap.size w1 w2) : OS w p c s k w2 :=
  ⟨h.sc.below b, (b.block _ (heap_lt h.box)).trans h.box, h.tok.below b, h.only.belowR b⟩
theorem OS.cells {w w1 : World} {p c k : Nat} {s : ByteArray} (h : OS w p c s k w1) : w1.cell? ⟨w.heap.size, 0, none⟩ = some (.pointer (some ⟨p, 0, none⟩)) ∧ w1.cell? ⟨p, 0, none⟩ = some (.pointer (some ⟨c, 0, none⟩)) :=
  ⟨by simp [World.cell?, h.box], h.sc.c0⟩
set_option maxHeartbeats 1000000 in
theorem quoted_tok (p c k : Nat) (s : ByteArray) (w : World) (h : ScAt w p c s k) (hs : s.size ≤ maxLen) :
    Calls Tryd.prog 38 #[.agg #[.pointer (some ⟨p, 0, none⟩)]] w (TokPost c s k (quoteL (s.data.toList.drop k)) w) := by
  have hcl := h.cur.lt
  have hpl := h.lt
  have H := Lib.hid h
  clear h
  cases hq : Lib.hasPrefix (s.data.toList.drop k) [39, 39, 39, 39] with
  | true =>
    rw [quoteL_4 hq]
    have HT := Lib.hid fun w1 hw => take_yes p c k s ⟨#[39, 39, 39, 39]⟩ w1 hw hs hq
    clear hq
    go_enter Tryd.func38, Tryd.ntmps38
    go_wp2_with fail
    refine (HT.out _ ((H.out.alloc _).alloc _)).mono ?_
    have BZ := Lib.hid (BoxZ.new w p)
    have H0 := Lib.hid ((H.out.alloc (.cells #[.pointer (some ⟨p, 0, none⟩)] 48)).alloc (.cells #[.int .i64 0, .string ⟨#[]⟩, .int .i64 0, .bool false, .int .i64 0, .int .i64 0, .int .i64 0] 38))
    generalize (w.alloc (.cells #[.pointer (some ⟨p, 0, none⟩)] 48)).alloc (.cells #[.int .i64 0, .string ⟨#[]⟩, .int .i64 0, .bool false, .int .i64 0, .int .i64 0, .int .i64 0] 38) = w0 at BZ H0
    rintro e w1 ⟨rfl, c1, o1⟩
    have c1 : CurAt w1 c s (k + 4) := c1
    have S1 := Lib.hid ((OS.start BZ.out H0.out).next hcl o1 c1)
    clear c1 o1
    go_wp2_with fail
    refine (char_any _ _).mono ?_
    rintro e w8 ⟨rfl, b8⟩
    have S8 := Lib.hid (S1.out.below b8)
    clear b8
    obtain ⟨g0, g1, g2, g3, g4, g5, g6, gf⟩ := S8.out.tok.facts
    go_wp2_with fail
    exact bodyPost_ret (v := .tuple #[tokV ⟨4, [], 39, 4, 0⟩, .int .i64 0]) (by simp [results, Tryd.results38, go_sem, tokV, g0, g1, g2, g3, g4, g5, g6]) rfl (post7 (f := ⟨4, [], 39, 4, 0⟩) (by omega) (by omega) S8.out.only (fun _ => S8.out.sc.cur) _ _ _ _ _ _ _)
  | false =>
    rw [quoteL_1 s k hq]
    have HT := Lib.hid fun w1 hw => take_no p c k s ⟨#[39, 39, 39, 39]⟩ w1 hw hq
    have HN := Lib.hid fun w1 hw => quoted1_tok p c k s w1 hw hs
    generalize quote1 s k = f at HN ⊢
    clear hq
    go_enter Tryd.func38, Tryd.ntmps38
    go_wp2_with fail
    refine (HT.out _ ((H.out.alloc _).alloc _)).mono ?_
    have BZ := Lib.hid (BoxZ.new w p)
    have H0 := Lib.hid ((H.out.alloc (.cells #[.pointer (some ⟨p, 0, none⟩)] 48)).alloc (.cells #[.int .i64 0, .string ⟨#[]⟩, .int .i64 0, .bool false, .int .i64 0, .int .i64 0, .int .i64 0] 38))
    generalize (w.alloc (.cells #[.pointer (some ⟨p, 0, none⟩)] 48)).alloc (.cells #[.int .i64 0, .string ⟨#[]⟩, .int .i64 0, .bool false, .int .i64 0, .int .i64 0, .int .i64 0] 38) = w0 at BZ H0
    rintro e w1 ⟨rfl, b1⟩
    have S1 := Lib.hid ((OS.start BZ.out H0.out).below b1)
    have x1 := S1.out.cells.1
    clear b1
    go_wp2_with fail
    refine (HN.out _ S1.out.sc).mono ?_
    unfold TokPost tokV
    rintro e w9 ⟨rfl, o9, c9⟩
    have C9 := Lib.hid c9
    have O9 := Lib.hid (S1.out.only.trans o9)
    have Z9 := Lib.hid (S1.out.tok.only o9 (by omega))
    obtain ⟨g0, g1, g2, g3, g4, g5, g6, gf⟩ := Z9.out.facts
    clear c9 o9
    go_wp2_with fail
    exact bodyPost_ret (v := .tuple #[tokV f, .int .i64 (f.err : Nat)]) (by simp [results, Tryd.results38, go_sem, tokV, g0, g1, g2, g3, g4, g5, g6]) rfl (post7 (f := f) (by omega) (by omega) O9.out C9.out _ _ _ _ _ _ _)
theorem hash_good {ds : List UInt8} (h1 : ds.length ≠ 0) (h2 : ds.length ≤ 3) (h3 : valL ds ≤ 255) : hashL ds = ⟨4, [], valL ds, 1 + ds.length, 0⟩ := by
  unfold hashL; rw [decide_eq_false h1, decide_eq_false (by omega : ¬ 3 < ds.length), decide_eq_false (by omega : ¬ 255 < valL ds)]; rfl
theorem hash_0 {ds : List UInt8} (h1 : ds.length = 0) : hashL ds = bad 7 := by unfold hashL; rw [decide_eq_true h1]; rfl
theorem hash_3 {ds : List UInt8} (h1 : 3 < ds.length) : hashL ds = bad 7 := by unfold hashL; rw [decide_eq_true h1]; simp
theorem hash_255 {ds : List UInt8} (h1 : 255 < valL ds) : hashL ds = bad 7 := by unfold hashL; rw [decide_eq_true h1]; simp
set_option maxHeartbeats 2000000 in
theorem numbered_tok (p c k : Nat) (s : ByteArray) (w : World) (h : ScAt w p c s k) (hs : s.size ≤ maxLen) (hk : k < s.size) :
    Calls Tryd.prog 39 #[.agg #[.pointer (some ⟨p, 0, none⟩)]] w (TokPost c s k (hashL ((s.data.toList.drop (k + 1)).takeWhile isDig)) w) := by
  have hcl := h.cur.lt
  have hpl := h.lt
  have H := Lib.hid h
  clear h
  have hz := tw_size isDig s (k + 1)
  have hval := valTo_all ((s.data.toList.drop (k + 1)).takeWhile isDig)
  have hlen := ba_len ((s.data.toList.drop (k + 1)).takeWhile isDig)
  have hall := dig_all (s.data.toList.drop (k + 1))
  have HD := Lib.hid fun w1 hw => digits2 p c (k + 1) s w1 hw hs
  by_cases h0 : ((s.data.toList.drop (k + 1)).takeWhile isDig).length = 0
  · rw [hash_0 h0]
    have hn : ¬ AD ⟨((s.data.toList.drop (k + 1)).takeWhile isDig).toArray⟩ := fun h => by have := h.1; omega
    have HN := Lib.hid fun w1 => number_bad ⟨((s.data.toList.drop (k + 1)).takeWhile isDig).toArray⟩ w1 (by omega) hn
    clear hn hval
    have h00 := H.out.c0
    go_enter Tryd.func39, Tryd.ntmps39
    go_wp2_with fail
    refine (skip_any c k 1 s _ ((H.out.alloc _).alloc _).cur hs).mono ?_
    have BZ := Lib.hid (BoxZ.new w p)
    have H0 := Lib.hid ((H.out.alloc (.cells #[.pointer (some ⟨p, 0, none⟩)] 48)).alloc (.cells #[.int .i64 0, .string ⟨#[]⟩, .int .i64 0, .bool false, .int .i64 0, .int .i64 0, .int .i64 0] 38))
    generalize (w.alloc (.cells #[.pointer (some ⟨p, 0, none⟩)] 48)).alloc (.cells #[.int .i64 0, .string ⟨#[]⟩, .int .i64 0, .bool false, .int .i64 0, .int .i64 0, .int .i64 0] 38) = w0 at BZ H0
    clear h00
    rw [show skipN 1 k s = 1 by unfold skipN; omega]
    rintro e w1 ⟨rfl, c1, o1⟩
    have H1 := Lib.hid (H0.out.only o1 c1)
    have Z1 := Lib.hid (BZ.out.tok.only o1 (by omega))
    have O1 := Lib.hid (o1.from BZ.out.bel)
    have x1 := BZ.out.cell' o1 (by omega)
    clear c1 o1
    go_wp2_with fail
    refine (HD.out _ H1.out).mono ?_
    rintro e w2 ⟨rfl, c2, o2⟩
    have Z2 := Lib.hid (Z1.out.only o2 (by omega))
    have O2 := Lib.hid (O1.out.trans o2)
    have C2 := Lib.hid c2
    obtain ⟨g0, g1, g2, g3, g4, g5, g6, gf⟩ := Z2.out.facts
    clear x1
    clear c2 o2
    go_wp2_with fail
    refine (HN.out _).mono ?_
    rintro e w3 ⟨rfl, rfl⟩
    go_wp2_with fail
    exact bodyPost_ret (v := .tuple #[tokV (bad 7), .int .i64 7]) (by simp [results, Tryd.results39, go_sem, tokV, bad, g0, g1, g2, g3, g4, g5, g6]) rfl (post7 (f := bad 7) (by omega) (by omega) O2.out (fun h => by cases h) _ _ _ _ _ _ _)
  · have had := AD_of _ (by omega) hall
    by_cases h1 : maxInt < valL ((s.data.toList.drop (k + 1)).takeWhile isDig)
    · rw [hash_255 (by unfold maxInt at h1; omega)]
      have HN := Lib.hid fun w1 => number_big ⟨((s.data.toList.drop (k + 1)).takeWhile isDig).toArray⟩ w1 (by omega) had (by rw [hval]; unfold maxInt at h1; omega)
      clear had hval
      have h00 := H.out.c0
      go_enter Tryd.func39, Tryd.ntmps39
      go_wp2_with fail
      refine (skip_any c k 1 s _ ((H.out.alloc _).alloc _).cur hs).mono ?_
      have BZ := Lib.hid (BoxZ.new w p)
      have H0 := Lib.hid ((H.out.alloc (.cells #[.pointer (some ⟨p, 0, none⟩)] 48)).alloc (.cells #[.int .i64 0, .string ⟨#[]⟩, .int .i64 0, .bool false, .int .i64 0, .int .i64 0, .int .i64 0] 38))
      generalize (w.alloc (.cells #[.pointer (some ⟨p, 0, none⟩)] 48)).alloc (.cells #[.int .i64 0, .string ⟨#[]⟩, .int .i64 0, .bool false, .int .i64 0, .int .i64 0, .int .i64 0] 38) = w0 at BZ H0
      clear h00
      rw [show skipN 1 k s = 1 by unfold skipN; omega]
      rintro e w1 ⟨rfl, c1, o1⟩
      have H1 := Lib.hid (H0.out.only o1 c1)
      have Z1 := Lib.hid (BZ.out.tok.only o1 (by omega))
      have O1 := Lib.hid (o1.from BZ.out.bel)
      have x1 := BZ.out.cell' o1 (by omega)
      clear c1 o1
      go_wp2_with fail
      refine (HD.out _ H1.out).mono ?_
      rintro e w2 ⟨rfl, c2, o2⟩
      have Z2 := Lib.hid (Z1.out.only o2 (by omega))
      have O2 := Lib.hid (O1.out.trans o2)
      have C2 := Lib.hid c2
      obtain ⟨g0, g1, g2, g3, g4, g5, g6, gf⟩ := Z2.out.facts
      clear x1
      clear c2 o2
      go_wp2_with fail
      refine (HN.out _).mono ?_
      rintro e w3 ⟨rfl, rfl⟩
      go_wp2_with fail
      exact bodyPost_ret (v := .tuple #[tokV (bad 7), .int .i64 7]) (by simp [results, Tryd.results39, go_sem, tokV, bad, g0, g1, g2, g3, g4, g5, g6]) rfl (post7 (f := bad 7) (by omega) (by omega) O2.out (fun h => by cases h) _ _ _ _ _ _ _)
    · unfold maxInt at h1
      have hN := fun w1 => number_ok ⟨((s.data.toList.drop (k + 1)).takeWhile isDig).toArray⟩ w1 (by omega) had (by rw [hval]; omega)
      rw [hval] at hN
      have HN := Lib.hid hN
      clear hN had hval
      by_cases h3 : 3 < ((s.data.toList.drop (k + 1)).takeWhile isDig).length
      · rw [hash_3 h3]
        have d3 : decide ((3 : Int) < ((ByteArray.mk ((s.data.toList.drop (k + 1)).takeWhile isDig).toArray).size : Int)) = true := by simp; omega
        have h00 := H.out.c0
        go_enter Tryd.func39, Tryd.ntmps39
        go_wp2_with fail
        refine (skip_any c k 1 s _ ((H.out.alloc _).alloc _).cur hs).mono ?_
        have BZ := Lib.hid (BoxZ.new w p)
        have H0 := Lib.hid ((H.out.alloc (.cells #[.pointer (some ⟨p, 0, none⟩)] 48)).alloc (.cells #[.int .i64 0, .string ⟨#[]⟩, .int .i64 0, .bool false, .int .i64 0, .int .i64 0, .int .i64 0] 38))
        generalize (w.alloc (.cells #[.pointer (some ⟨p, 0, none⟩)] 48)).alloc (.cells #[.int .i64 0, .string ⟨#[]⟩, .int .i64 0, .bool false, .int .i64 0, .int .i64 0, .int .i64 0] 38) = w0 at BZ H0
        clear h00
        rw [show skipN 1 k s = 1 by unfold skipN; omega]
        rintro e w1 ⟨rfl, c1, o1⟩
        have H1 := Lib.hid (H0.out.only o1 c1)
        have Z1 := Lib.hid (BZ.out.tok.only o1 (by omega))
        have O1 := Lib.hid (o1.from BZ.out.bel)
        have x1 := BZ.out.cell' o1 (by omega)
        clear c1 o1
        go_wp2_with fail
        refine (HD.out _ H1.out).mono ?_
        rintro e w2 ⟨rfl, c2, o2⟩
        have Z2 := Lib.hid (Z1.out.only o2 (by omega))
        have O2 := Lib.hid (O1.out.trans o2)
        have C2 := Lib.hid c2
        obtain ⟨g0, g1, g2, g3, g4, g5, g6, gf⟩ := Z2.out.facts
        clear x1
        clear c2 o2
        go_wp2_with fail
        refine (HN.out _).mono ?_
        rintro e w3 ⟨rfl, rfl⟩
        go_wp2_with fail
        exact bodyPost_ret (v := .tuple #[tokV (bad 7), .int .i64 7]) (by simp [results, Tryd.results39, go_sem, tokV, bad, g0, g1, g2, g3, g4, g5, g6]) rfl (post7 (f := bad 7) (by omega) (by omega) O2.out (fun h => by cases h) _ _ _ _ _ _ _)
      · have d3 : decide ((3 : Int) < ((ByteArray.mk ((s.data.toList.drop (k + 1)).takeWhile isDig).toArray).size : Int)) = false := by simp; omega
        by_cases h5 : 255 < valL ((s.data.toList.drop (k + 1)).takeWhile isDig)
        · rw [hash_255 h5]
          have d5 : decide ((255 : Int) < ((valL ((s.data.toList.drop (k + 1)).takeWhile isDig) : Nat) : Int)) = true := by simp; omega
          have h00 := H.out.c0
          go_enter Tryd.func39, Tryd.ntmps39
          go_wp2_with fail
          refine (skip_any c k 1 s _ ((H.out.alloc _).alloc _).cur hs).mono ?_
          have BZ := Lib.hid (BoxZ.new w p)
          have H0 := Lib.hid ((H.out.alloc (.cells #[.pointer (some ⟨p, 0, none⟩)] 48)).alloc (.cells #[.int .i64 0, .string ⟨#[]⟩, .int .i64 0, .bool false, .int .i64 0, .int .i64 0, .int .i64 0] 38))
          generalize (w.alloc (.cells #[.pointer (some ⟨p, 0, none⟩)] 48)).alloc (.cells #[.int .i64 0, .string ⟨#[]⟩, .int .i64 0, .bool false, .int .i64 0, .int .i64 0, .int .i64 0] 38) = w0 at BZ H0
          clear h00
          rw [show skipN 1 k s = 1 by unfold skipN; omega]
          rintro e w1 ⟨rfl, c1, o1⟩
          have H1 := Lib.hid (H0.out.only o1 c1)
          have Z1 := Lib.hid (BZ.out.tok.only o1 (by omega))
          have O1 := Lib.hid (o1.from BZ.out.bel)
          have x1 := BZ.out.cell' o1 (by omega)
          clear c1 o1
          go_wp2_with fail
          refine (HD.out _ H1.out).mono ?_
          rintro e w2 ⟨rfl, c2, o2⟩
          have Z2 := Lib.hid (Z1.out.only o2 (by omega))
          have O2 := Lib.hid (O1.out.trans o2)
          have C2 := Lib.hid c2
          obtain ⟨g0, g1, g2, g3, g4, g5, g6, gf⟩ := Z2.out.facts
          clear x1
          clear c2 o2
          go_wp2_with fail
          refine (HN.out _).mono ?_
          rintro e w3 ⟨rfl, rfl⟩
          go_wp2_with fail
          exact bodyPost_ret (v := .tuple #[tokV (bad 7), .int .i64 7]) (by simp [results, Tryd.results39, go_sem, tokV, bad, g0, g1, g2, g3, g4, g5, g6]) rfl (post7 (f := bad 7) (by omega) (by omega) O2.out (fun h => by cases h) _ _ _ _ _ _ _)
        · rw [hash_good h0 (by omega) (by omega)]
          have d5 : decide ((255 : Int) < ((valL ((s.data.toList.drop (k + 1)).takeWhile isDig) : Nat) : Int)) = false := by simp; omega
          have h00 := H.out.c0
          go_enter Tryd.func39, Tryd.ntmps39
          go_wp2_with fail
          refine (skip_any c k 1 s _ ((H.out.alloc _).alloc _).cur hs).mono ?_
          have BZ := Lib.hid (BoxZ.new w p)
          have H0 := Lib.hid ((H.out.alloc (.cells #[.pointer (some ⟨p, 0, none⟩)] 48)).alloc (.cells #[.int .i64 0, .string ⟨#[]⟩, .int .i64 0, .bool false, .int .i64 0, .int .i64 0, .int .i64 0] 38))
          generalize (w.alloc (.cells #[.pointer (some ⟨p, 0, none⟩)] 48)).alloc (.cells #[.int .i64 0, .string ⟨#[]⟩, .int .i64 0, .bool false, .int .i64 0, .int .i64 0, .int .i64 0] 38) = w0 at BZ H0
          clear h00
          rw [show skipN 1 k s = 1 by unfold skipN; omega]
          rintro e w1 ⟨rfl, c1, o1⟩
          have H1 := Lib.hid (H0.out.only o1 c1)
          have Z1 := Lib.hid (BZ.out.tok.only o1 (by omega))
          have O1 := Lib.hid (o1.from BZ.out.bel)
          have x1 := BZ.out.cell' o1 (by omega)
          clear c1 o1
          go_wp2_with fail
          refine (HD.out _ H1.out).mono ?_
          rintro e w2 ⟨rfl, c2, o2⟩
          have Z2 := Lib.hid (Z1.out.only o2 (by omega))
          have O2 := Lib.hid (O1.out.trans o2)
          have C2 := Lib.hid c2
          clear x1
          clear c2 o2
          go_wp2_with fail
          refine (HN.out _).mono ?_
          rintro e w3 ⟨rfl, rfl⟩
          go_wp2_with fail
          refine (char_any _ _).mono ?_
          rintro e w5 ⟨rfl, b5⟩
          have Z5 := Lib.hid (Z2.out.below b5)
          have O5 := Lib.hid (O2.out.belowR b5)
          have C5 := Lib.hid (C2.out.stays (b5.block c C2.out.lt))
          obtain ⟨g0, g1, g2, g3, g4, g5, g6, gf⟩ := Z5.out.facts
          clear b5
          go_wp2_with fail
          exact bodyPost_ret (v := .tuple #[tokV ⟨4, [], valL ((s.data.toList.drop (k + 1)).takeWhile isDig), 1 + ((s.data.toList.drop (k + 1)).takeWhile isDig).length, 0⟩, .int .i64 0]) (by simp [results, Tryd.results39, go_sem, tokV, g0, g1, g2, g3, g4, g5, g6]) rfl (post7 (f := ⟨4, [], valL ((s.data.toList.drop (k + 1)).takeWhile isDig), 1 + ((s.data.toList.drop (k + 1)).takeWhile isDig).length, 0⟩) (by omega) (by omega) O5.out (fun _ => by rw [← Nat.add_assoc]; exact C5.out) _ _ _ _ _ _ _)
end Go.Proofs.YtjdmaindoohmkaaDoor.P
