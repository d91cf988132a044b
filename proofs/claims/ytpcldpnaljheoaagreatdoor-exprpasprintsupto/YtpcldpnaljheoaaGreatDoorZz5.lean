/-
  Texts of this proof, put together.
-/
import Derived.Test.YtpcldpnaljheoaaGreatDoorZz4
import Derived.Laws.AppendOwn
import Derived.OwnWalk
import Derived.Test.YtpcldpnaljheoaaGreatDoorZz3
import Derived.Test.YtpcldpnaljheoaaGreatDoorRows
import Derived.WalkKit
import Derived.WalkSpells
import Derived.WalkLawsBesides
import Derived.BigQuiet
import Derived.Deep.QuietTactic
import Derived.Deep.Draws
import Derived.Lib.Strings
import Derived.Lib.Hide
import Derived.Lib.OthersKept
import Derived.Lib.AppendStr
import Derived.Laws.BytesArg
import Derived.IntWalk
import Derived.StillTailTactics
section
namespace Go.Proofs.YtpcldpnaljheoaaGreatDoor.X.P
open Go.RowKit Go.Sort

/-- A box that holds the scanner's place, and a token that is zero behind it. -/
structure BoxZ (w w0 : World) (p : Nat) (q : Nat) : Prop where
  blk : w0.heap[q]? = some (.cells #[.pointer (some ⟨p, 0, none⟩)] 83)
  tok : TokZ w0 (q + 1)
  bel : Below w.heap.size w w0
  le : w.heap.size ≤ q
theorem BoxZ.lt {w w0 : World} {p q : Nat} (h : BoxZ w w0 p q) : q < w0.heap.size := heap_lt h.blk
theorem BoxZ.cell {w w0 : World} {p q : Nat} (h : BoxZ w w0 p q) : w0.cell? ⟨q, 0, none⟩ = some (.pointer (some ⟨p, 0, none⟩)) := by simp [World.cell?, h.blk]
theorem BoxZ.new (w : World) (p : Nat) : BoxZ w ((w.alloc (.cells #[.pointer (some ⟨p, 0, none⟩)] 83)).alloc (.cells #[.int .i64 0, .string ⟨#[]⟩, .int .i64 0, .bool false, .int .i64 0, .int .i64 0, .int .i64 0] 50)) p w.heap.size := by
  have e : (w.alloc (.cells #[.pointer (some ⟨p, 0, none⟩)] 83)).heap.size = w.heap.size + 1 := by simp
  have hz := TokZ.new (w.alloc (.cells #[.pointer (some ⟨p, 0, none⟩)] 83))
  rw [e] at hz
  refine ⟨?_, hz, ((Below.refl _ _).alloc (Nat.le_refl _) _).alloc (by simp) _, Nat.le_refl _⟩
  rw [((Below.refl _ (w.alloc (.cells #[.pointer (some ⟨p, 0, none⟩)] 83))).alloc (Nat.le_refl _) _).block w.heap.size (by simp), heap_new]
theorem BoxZ.cell' {w w0 w1 : World} {p q c : Nat} (h : BoxZ w w0 p q) (o : Only c w0 w1) (hn : q ≠ c) : w1.cell? ⟨q, 0, none⟩ = some (.pointer (some ⟨p, 0, none⟩)) := by
  rw [cell_eq (o.block q hn h.lt)]; exact h.cell

theorem quoteL_4 {l : List UInt8} (h : Lib.hasPrefix l [39, 39, 39, 39] = true) : quoteL l = ⟨4, [], 39, 4, 0⟩ := by unfold quoteL; rw [if_pos h]
theorem quoteL_1 (s : ByteArray) (k : Nat) (h : Lib.hasPrefix (s.data.toList.drop k) [39, 39, 39, 39] = false) : quoteL (s.data.toList.drop k) = quote1 s k := by
  unfold quoteL; rw [h, if_neg (by decide), getD_drop, getD_drop]; rfl
/-- The state of own: the scanner, the box, the token that is zero. -/
structure OS (w : World) (p c : Nat) (s : ByteArray) (k : Nat) (w1 : World) : Prop where
  sc : ScAt w1 p c s k
  box : w1.heap[w.heap.size]? = some (.cells #[.pointer (some ⟨p, 0, none⟩)] 83)
  tok : TokZ w1 (w.heap.size + 1)
  only : Only c w w1
theorem OS.start {w w0 : World} {p c k : Nat} {s : ByteArray} (h : BoxZ w w0 p w.heap.size) (g : ScAt w0 p c s k) : OS w p c s k w0 := ⟨g, h.blk, h.tok, Only.ofBelow h.bel (Nat.le_refl _)⟩
theorem OS.drew {w w1 : World} {p c k : Nat} {s : ByteArray} (h : OS w p c s k w1) : OS w p c s k w1.drew :=
  ⟨⟨⟨h.sc.cur.le, h.sc.cur.blk⟩, h.sc.blk, h.sc.ne⟩, h.box, ⟨h.tok.blk⟩, ⟨h.only.os, h.only.tape, h.only.output, h.only.size, h.only.block⟩⟩
theorem OS.next {w w1 w2 : World} {p c k j : Nat} {s : ByteArray} (h : OS w p c s k w1) (hc : c < w.heap.size) (o : Only c w1 w2) (cu : CurAt w2 c s j) : OS w p c s j w2 :=
  ⟨h.sc.only o cu, (o.block _ (by omega) (heap_lt h.box)).trans h.box, h.tok.only o (by omega), h.only.trans o⟩
theorem OS.below {w w1 w2 : World} {p c k : Nat} {s : ByteArray} (h : OS w p c s k w1) (b : Below w1.heap.size w1 w2) : OS w p c s k w2 :=
  ⟨h.sc.below b, (b.block _ (heap_lt h.box)).trans h.box, h.tok.below b, h.only.belowR b⟩
theorem OS.cells {w w1 : World} {p c k : Nat} {s : ByteArray} (h : OS w p c s k w1) : w1.cell? ⟨w.heap.size, 0, none⟩ = some (.pointer (some ⟨p, 0, none⟩)) ∧ w1.cell? ⟨p, 0, none⟩ = some (.pointer (some ⟨c, 0, none⟩)) :=
  ⟨by simp [World.cell?, h.box], h.sc.c0⟩
set_option maxHeartbeats 1000000 in
theorem quoted_tok (p c k : Nat) (s : ByteArray) (w : World) (h : ScAt w p c s k) (hs : s.size ≤ maxLen) :
    Calls Tryz.prog 77 #[.agg #[.pointer (some ⟨p, 0, none⟩)]] w (TokPost c s k (quoteL (s.data.toList.drop k)) w) := by
  have hcl := h.cur.lt
  have hpl := h.lt
  have H := Lib.hid h
  clear h
  cases hq : Lib.hasPrefix (s.data.toList.drop k) [39, 39, 39, 39] with
  | true =>
    rw [quoteL_4 hq]
    have HT := Lib.hid fun w1 hw => take_yes p c k s ⟨#[39, 39, 39, 39]⟩ w1 hw hs hq
    clear hq
    go_enter Tryz.func77, Tryz.ntmps77
    go_wp2_with fail
    refine (HT.out _ ((H.out.alloc _).alloc _)).mono ?_
    have BZ := Lib.hid (BoxZ.new w p)
    have H0 := Lib.hid ((H.out.alloc (.cells #[.pointer (some ⟨p, 0, none⟩)] 83)).alloc (.cells #[.int .i64 0, .string ⟨#[]⟩, .int .i64 0, .bool false, .int .i64 0, .int .i64 0, .int .i64 0] 50))
    generalize (w.alloc (.cells #[.pointer (some ⟨p, 0, none⟩)] 83)).alloc (.cells #[.int .i64 0, .string ⟨#[]⟩, .int .i64 0, .bool false, .int .i64 0, .int .i64 0, .int .i64 0] 50) = w0 at BZ H0
    rintro e w1 ⟨rfl, c1, o1⟩
    have c1 : CurAt w1 c s (k + 4) := c1
    have S1 := Lib.hid ((OS.start BZ.out H0.out).next hcl o1 c1)
    clear c1 o1
    go_wp2_with fail
    refine (char_any _ _).mono ?_
    rintro e w8 ⟨rfl, b8⟩
    have S8 := Lib.hid (S1.out.below b8)
    clear b8
    obtain ⟨g0, g1, g2, g3, g4, g5, g6, gf⟩ := S8.out.tok.facts
    go_wp2_with fail
    exact bodyPost_ret (v := .tuple #[tokV ⟨4, [], 39, 4, 0⟩, .int .i64 0]) (by simp [results, Tryz.results77, go_sem, tokV, g0, g1, g2, g3, g4, g5, g6]) rfl (post7 (f := ⟨4, [], 39, 4, 0⟩) (by omega) (by omega) S8.out.only (fun _ => S8.out.sc.cur) _ _ _ _ _ _ _)
  | false =>
    rw [quoteL_1 s k hq]
    have HT := Lib.hid fun w1 hw => take_no p c k s ⟨#[39, 39, 39, 39]⟩ w1 hw hq
    have HN := Lib.hid fun w1 hw => quoted1_tok p c k s w1 hw hs
    generalize quote1 s k = f at HN ⊢
    clear hq
    go_enter Tryz.func77, Tryz.ntmps77
    go_wp2_with fail
    refine (HT.out _ ((H.out.alloc _).alloc _)).mono ?_
    have BZ := Lib.hid (BoxZ.new w p)
    have H0 := Lib.hid ((H.out.alloc (.cells #[.pointer (some ⟨p, 0, none⟩)] 83)).alloc (.cells #[.int .i64 0, .string ⟨#[]⟩, .int .i64 0, .bool false, .int .i64 0, .int .i64 0, .int .i64 0] 50))
    generalize (w.alloc (.cells #[.pointer (some ⟨p, 0, none⟩)] 83)).alloc (.cells #[.int .i64 0, .string ⟨#[]⟩, .int .i64 0, .bool false, .int .i64 0, .int .i64 0, .int .i64 0] 50) = w0 at BZ H0
    rintro e w1 ⟨rfl, b1⟩
    have S1 := Lib.hid ((OS.start BZ.out H0.out).below b1)
    have x1 := S1.out.cells.1
    clear b1
    go_wp2_with fail
    refine (HN.out _ S1.out.sc).mono ?_
    unfold TokPost tokV
    rintro e w9 ⟨rfl, o9, c9⟩
    have C9 := Lib.hid c9
    have O9 := Lib.hid (S1.out.only.trans o9)
    have Z9 := Lib.hid (S1.out.tok.only o9 (by omega))
    obtain ⟨g0, g1, g2, g3, g4, g5, g6, gf⟩ := Z9.out.facts
    clear c9 o9
    go_wp2_with fail
    exact bodyPost_ret (v := .tuple #[tokV f, .int .i64 (f.err : Nat)]) (by simp [results, Tryz.results77, go_sem, tokV, g0, g1, g2, g3, g4, g5, g6]) rfl (post7 (f := f) (by omega) (by omega) O9.out C9.out _ _ _ _ _ _ _)
theorem hash_good {ds : List UInt8} (h1 : ds.length ≠ 0) (h2 : ds.length ≤ 3) (h3 : valL ds ≤ 255) : hashL ds = ⟨4, [], valL ds, 1 + ds.length, 0⟩ := by
  unfold hashL; rw [decide_eq_false h1, decide_eq_false (by omega : ¬ 3 < ds.length), decide_eq_false (by omega : ¬ 255 < valL ds)]; rfl
theorem hash_0 {ds : List UInt8} (h1 : ds.length = 0) : hashL ds = bad 7 := by unfold hashL; rw [decide_eq_true h1]; rfl
theorem hash_3 {ds : List UInt8} (h1 : 3 < ds.length) : hashL ds = bad 7 := by unfold hashL; rw [decide_eq_true h1]; simp
theorem hash_255 {ds : List UInt8} (h1 : 255 < valL ds) : hashL ds = bad 7 := by unfold hashL; rw [decide_eq_true h1]; simp
set_option maxHeartbeats 2000000 in
theorem numbered_tok (p c k : Nat) (s : ByteArray) (w : World) (h : ScAt w p c s k) (hs : s.size ≤ maxLen) (hk : k < s.size) :
    Calls Tryz.prog 78 #[.agg #[.pointer (some ⟨p, 0, none⟩)]] w (TokPost c s k (hashL ((s.data.toList.drop (k + 1)).takeWhile isDig)) w) := by
  have hcl := h.cur.lt
  have hpl := h.lt
  have H := Lib.hid h
  clear h
  have hz := tw_size isDig s (k + 1)
  have hval := valTo_all ((s.data.toList.drop (k + 1)).takeWhile isDig)
  have hlen := ba_len ((s.data.toList.drop (k + 1)).takeWhile isDig)
  have hall := dig_all (s.data.toList.drop (k + 1))
  have HD := Lib.hid fun w1 hw => digits2 p c (k + 1) s w1 hw hs
  by_cases h0 : ((s.data.toList.drop (k + 1)).takeWhile isDig).length = 0
  · rw [hash_0 h0]
    have hn : ¬ AD ⟨((s.data.toList.drop (k + 1)).takeWhile isDig).toArray⟩ := fun h => by have := h.1; omega
    have HN := Lib.hid fun w1 => number_bad ⟨((s.data.toList.drop (k + 1)).takeWhile isDig).toArray⟩ w1 (by omega) hn
    clear hn hval
    have h00 := H.out.c0
    go_enter Tryz.func78, Tryz.ntmps78
    go_wp2_with fail
    refine (skip_any c k 1 s _ ((H.out.alloc _).alloc _).cur hs).mono ?_
    have BZ := Lib.hid (BoxZ.new w p)
    have H0 := Lib.hid ((H.out.alloc (.cells #[.pointer (some ⟨p, 0, none⟩)] 83)).alloc (.cells #[.int .i64 0, .string ⟨#[]⟩, .int .i64 0, .bool false, .int .i64 0, .int .i64 0, .int .i64 0] 50))
    generalize (w.alloc (.cells #[.pointer (some ⟨p, 0, none⟩)] 83)).alloc (.cells #[.int .i64 0, .string ⟨#[]⟩, .int .i64 0, .bool false, .int .i64 0, .int .i64 0, .int .i64 0] 50) = w0 at BZ H0
    clear h00
    rw [show skipN 1 k s = 1 by unfold skipN; omega]
    rintro e w1 ⟨rfl, c1, o1⟩
    have H1 := Lib.hid (H0.out.only o1 c1)
    have Z1 := Lib.hid (BZ.out.tok.only o1 (by omega))
    have O1 := Lib.hid (o1.from BZ.out.bel)
    have x1 := BZ.out.cell' o1 (by omega)
    clear c1 o1
    go_wp2_with fail
    refine (HD.out _ H1.out).mono ?_
    rintro e w2 ⟨rfl, c2, o2⟩
    have Z2 := Lib.hid (Z1.out.only o2 (by omega))
    have O2 := Lib.hid (O1.out.trans o2)
    have C2 := Lib.hid c2
    obtain ⟨g0, g1, g2, g3, g4, g5, g6, gf⟩ := Z2.out.facts
    clear x1
    clear c2 o2
    go_wp2_with fail
    refine (HN.out _).mono ?_
    rintro e w3 ⟨rfl, rfl⟩
    go_wp2_with fail
    exact bodyPost_ret (v := .tuple #[tokV (bad 7), .int .i64 7]) (by simp [results, Tryz.results78, go_sem, tokV, bad, g0, g1, g2, g3, g4, g5, g6]) rfl (post7 (f := bad 7) (by omega) (by omega) O2.out (fun h => by cases h) _ _ _ _ _ _ _)
  · have had := AD_of _ (by omega) hall
    by_cases h1 : maxInt < valL ((s.data.toList.drop (k + 1)).takeWhile isDig)
    · rw [hash_255 (by unfold maxInt at h1; omega)]
      have HN := Lib.hid fun w1 => number_big ⟨((s.data.toList.drop (k + 1)).takeWhile isDig).toArray⟩ w1 (by omega) had (by rw [hval]; unfold maxInt at h1; omega)
      clear had hval
      have h00 := H.out.c0
      go_enter Tryz.func78, Tryz.ntmps78
      go_wp2_with fail
      refine (skip_any c k 1 s _ ((H.out.alloc _).alloc _).cur hs).mono ?_
      have BZ := Lib.hid (BoxZ.new w p)
      have H0 := Lib.hid ((H.out.alloc (.cells #[.pointer (some ⟨p, 0, none⟩)] 83)).alloc (.cells #[.int .i64 0, .string ⟨#[]⟩, .int .i64 0, .bool false, .int .i64 0, .int .i64 0, .int .i64 0] 50))
      generalize (w.alloc (.cells #[.pointer (some ⟨p, 0, none⟩)] 83)).alloc (.cells #[.int .i64 0, .string ⟨#[]⟩, .int .i64 0, .bool false, .int .i64 0, .int .i64 0, .int .i64 0] 50) = w0 at BZ H0
      clear h00
      rw [show skipN 1 k s = 1 by unfold skipN; omega]
      rintro e w1 ⟨rfl, c1, o1⟩
      have H1 := Lib.hid (H0.out.only o1 c1)
      have Z1 := Lib.hid (BZ.out.tok.only o1 (by omega))
      have O1 := Lib.hid (o1.from BZ.out.bel)
      have x1 := BZ.out.cell' o1 (by omega)
      clear c1 o1
      go_wp2_with fail
      refine (HD.out _ H1.out).mono ?_
      rintro e w2 ⟨rfl, c2, o2⟩
      have Z2 := Lib.hid (Z1.out.only o2 (by omega))
      have O2 := Lib.hid (O1.out.trans o2)
      have C2 := Lib.hid c2
      obtain ⟨g0, g1, g2, g3, g4, g5, g6, gf⟩ := Z2.out.facts
      clear x1
      clear c2 o2
      go_wp2_with fail
      refine (HN.out _).mono ?_
      rintro e w3 ⟨rfl, rfl⟩
      go_wp2_with fail
      exact bodyPost_ret (v := .tuple #[tokV (bad 7), .int .i64 7]) (by simp [results, Tryz.results78, go_sem, tokV, bad, g0, g1, g2, g3, g4, g5, g6]) rfl (post7 (f := bad 7) (by omega) (by omega) O2.out (fun h => by cases h) _ _ _ _ _ _ _)
    · unfold maxInt at h1
      have hN := fun w1 => number_ok ⟨((s.data.toList.drop (k + 1)).takeWhile isDig).toArray⟩ w1 (by omega) had (by rw [hval]; omega)
      rw [hval] at hN
      have HN := Lib.hid hN
      clear hN had hval
      by_cases h3 : 3 < ((s.data.toList.drop (k + 1)).takeWhile isDig).length
      · rw [hash_3 h3]
        have d3 : decide ((3 : Int) < ((ByteArray.mk ((s.data.toList.drop (k + 1)).takeWhile isDig).toArray).size : Int)) = true := by simp; omega
        have h00 := H.out.c0
        go_enter Tryz.func78, Tryz.ntmps78
        go_wp2_with fail
        refine (skip_any c k 1 s _ ((H.out.alloc _).alloc _).cur hs).mono ?_
        have BZ := Lib.hid (BoxZ.new w p)
        have H0 := Lib.hid ((H.out.alloc (.cells #[.pointer (some ⟨p, 0, none⟩)] 83)).alloc (.cells #[.int .i64 0, .string ⟨#[]⟩, .int .i64 0, .bool false, .int .i64 0, .int .i64 0, .int .i64 0] 50))
        generalize (w.alloc (.cells #[.pointer (some ⟨p, 0, none⟩)] 83)).alloc (.cells #[.int .i64 0, .string ⟨#[]⟩, .int .i64 0, .bool false, .int .i64 0, .int .i64 0, .int .i64 0] 50) = w0 at BZ H0
        clear h00
        rw [show skipN 1 k s = 1 by unfold skipN; omega]
        rintro e w1 ⟨rfl, c1, o1⟩
        have H1 := Lib.hid (H0.out.only o1 c1)
        have Z1 := Lib.hid (BZ.out.tok.only o1 (by omega))
        have O1 := Lib.hid (o1.from BZ.out.bel)
        have x1 := BZ.out.cell' o1 (by omega)
        clear c1 o1
        go_wp2_with fail
        refine (HD.out _ H1.out).mono ?_
        rintro e w2 ⟨rfl, c2, o2⟩
        have Z2 := Lib.hid (Z1.out.only o2 (by omega))
        have O2 := Lib.hid (O1.out.trans o2)
        have C2 := Lib.hid c2
        obtain ⟨g0, g1, g2, g3, g4, g5, g6, gf⟩ := Z2.out.facts
        clear x1
        clear c2 o2
        go_wp2_with fail
        refine (HN.out _).mono ?_
        rintro e w3 ⟨rfl, rfl⟩
        go_wp2_with fail
        exact bodyPost_ret (v := .tuple #[tokV (bad 7), .int .i64 7]) (by simp [results, Tryz.results78, go_sem, tokV, bad, g0, g1, g2, g3, g4, g5, g6]) rfl (post7 (f := bad 7) (by omega) (by omega) O2.out (fun h => by cases h) _ _ _ _ _ _ _)
      · have d3 : decide ((3 : Int) < ((ByteArray.mk ((s.data.toList.drop (k + 1)).takeWhile isDig).toArray).size : Int)) = false := by simp; omega
        by_cases h5 : 255 < valL ((s.data.toList.drop (k + 1)).takeWhile isDig)
        · rw [hash_255 h5]
          have d5 : decide ((255 : Int) < ((valL ((s.data.toList.drop (k + 1)).takeWhile isDig) : Nat) : Int)) = true := by simp; omega
          have h00 := H.out.c0
          go_enter Tryz.func78, Tryz.ntmps78
          go_wp2_with fail
          refine (skip_any c k 1 s _ ((H.out.alloc _).alloc _).cur hs).mono ?_
          have BZ := Lib.hid (BoxZ.new w p)
          have H0 := Lib.hid ((H.out.alloc (.cells #[.pointer (some ⟨p, 0, none⟩)] 83)).alloc (.cells #[.int .i64 0, .string ⟨#[]⟩, .int .i64 0, .bool false, .int .i64 0, .int .i64 0, .int .i64 0] 50))
          generalize (w.alloc (.cells #[.pointer (some ⟨p, 0, none⟩)] 83)).alloc (.cells #[.int .i64 0, .string ⟨#[]⟩, .int .i64 0, .bool false, .int .i64 0, .int .i64 0, .int .i64 0] 50) = w0 at BZ H0
          clear h00
          rw [show skipN 1 k s = 1 by unfold skipN; omega]
          rintro e w1 ⟨rfl, c1, o1⟩
          have H1 := Lib.hid (H0.out.only o1 c1)
          have Z1 := Lib.hid (BZ.out.tok.only o1 (by omega))
          have O1 := Lib.hid (o1.from BZ.out.bel)
          have x1 := BZ.out.cell' o1 (by omega)
          clear c1 o1
          go_wp2_with fail
          refine (HD.out _ H1.out).mono ?_
          rintro e w2 ⟨rfl, c2, o2⟩
          have Z2 := Lib.hid (Z1.out.only o2 (by omega))
          have O2 := Lib.hid (O1.out.trans o2)
          have C2 := Lib.hid c2
          obtain ⟨g0, g1, g2, g3, g4, g5, g6, gf⟩ := Z2.out.facts
          clear x1
          clear c2 o2
          go_wp2_with fail
          refine (HN.out _).mono ?_
          rintro e w3 ⟨rfl, rfl⟩
          go_wp2_with fail
          exact bodyPost_ret (v := .tuple #[tokV (bad 7), .int .i64 7]) (by simp [results, Tryz.results78, go_sem, tokV, bad, g0, g1, g2, g3, g4, g5, g6]) rfl (post7 (f := bad 7) (by omega) (by omega) O2.out (fun h => by cases h) _ _ _ _ _ _ _)
        · rw [hash_good h0 (by omega) (by omega)]
          have d5 : decide ((255 : Int) < ((valL ((s.data.toList.drop (k + 1)).takeWhile isDig) : Nat) : Int)) = false := by simp; omega
          have h00 := H.out.c0
          go_enter Tryz.func78, Tryz.ntmps78
          go_wp2_with fail
          refine (skip_any c k 1 s _ ((H.out.alloc _).alloc _).cur hs).mono ?_
          have BZ := Lib.hid (BoxZ.new w p)
          have H0 := Lib.hid ((H.out.alloc (.cells #[.pointer (some ⟨p, 0, none⟩)] 83)).alloc (.cells #[.int .i64 0, .string ⟨#[]⟩, .int .i64 0, .bool false, .int .i64 0, .int .i64 0, .int .i64 0] 50))
          generalize (w.alloc (.cells #[.pointer (some ⟨p, 0, none⟩)] 83)).alloc (.cells #[.int .i64 0, .string ⟨#[]⟩, .int .i64 0, .bool false, .int .i64 0, .int .i64 0, .int .i64 0] 50) = w0 at BZ H0
          clear h00
          rw [show skipN 1 k s = 1 by unfold skipN; omega]
          rintro e w1 ⟨rfl, c1, o1⟩
          have H1 := Lib.hid (H0.out.only o1 c1)
          have Z1 := Lib.hid (BZ.out.tok.only o1 (by omega))
          have O1 := Lib.hid (o1.from BZ.out.bel)
          have x1 := BZ.out.cell' o1 (by omega)
          clear c1 o1
          go_wp2_with fail
          refine (HD.out _ H1.out).mono ?_
          rintro e w2 ⟨rfl, c2, o2⟩
          have Z2 := Lib.hid (Z1.out.only o2 (by omega))
          have O2 := Lib.hid (O1.out.trans o2)
          have C2 := Lib.hid c2
          clear x1
          clear c2 o2
          go_wp2_with fail
          refine (HN.out _).mono ?_
          rintro e w3 ⟨rfl, rfl⟩
          go_wp2_with fail
          refine (char_any _ _).mono ?_
          rintro e w5 ⟨rfl, b5⟩
          have Z5 := Lib.hid (Z2.out.below b5)
          have O5 := Lib.hid (O2.out.belowR b5)
          have C5 := Lib.hid (C2.out.stays (b5.block c C2.out.lt))
          obtain ⟨g0, g1, g2, g3, g4, g5, g6, gf⟩ := Z5.out.facts
          clear b5
          go_wp2_with fail
          exact bodyPost_ret (v := .tuple #[tokV ⟨4, [], valL ((s.data.toList.drop (k + 1)).takeWhile isDig), 1 + ((s.data.toList.drop (k + 1)).takeWhile isDig).length, 0⟩, .int .i64 0]) (by simp [results, Tryz.results78, go_sem, tokV, g0, g1, g2, g3, g4, g5, g6]) rfl (post7 (f := ⟨4, [], valL ((s.data.toList.drop (k + 1)).takeWhile isDig), 1 + ((s.data.toList.drop (k + 1)).takeWhile isDig).length, 0⟩) (by omega) (by omega) O5.out (fun _ => by rw [← Nat.add_assoc]; exact C5.out) _ _ _ _ _ _ _)
end Go.Proofs.YtpcldpnaljheoaaGreatDoor.X.P
end
section
namespace Go.Proofs.YtpcldpnaljheoaaGreatDoor.X.P
open Go.RowKit Go.Sort

theorem setL_is (c : UInt8) : setL.data.toList.contains c = isLet c := by
  have := all8 (q := fun c => setL.data.toList.contains c == isLet c) (by decide +kernel) c
  simpa using this
theorem setD_has (c : UInt8) : setD.data.toList.contains c = isDig c := by
  have := all8 (q := fun c => setD.data.toList.contains c == isDig c) (by decide +kernel) c
  simpa using this
/-- What the lexer's own reads at k. -/
def ownF (s : ByteArray) (k : Nat) : Fd :=
  if isLet (bt s k) = true then nameL ((s.data.toList.drop k).takeWhile isNam)
  else if (bt s k == 39) = true then quoteL (s.data.toList.drop k)
  else if (bt s k == 35) = true then hashL ((s.data.toList.drop (k + 1)).takeWhile isDig)
  else signL (s.data.toList.drop k)
theorem nam_low (c : UInt8) (h : isNam c = true) : c.toNat < 128 := by
  have := all8 (q := fun c => !isNam c || decide (c.toNat < 128)) (by decide +kernel) c
  rw [h] at this
  simpa using this
theorem nam_ascii (l : List UInt8) (j : Nat) (b : UInt8) (h : (l.takeWhile isNam)[j]? = some b) : b.toNat < 128 :=
  nam_low b (tw_mem isNam l b (List.mem_of_getElem? h))
theorem cell_set7 {w : World} {b q o : Nat} (h : q ≠ b) (v0 v1 v2 v3 v4 v5 v6 : Value) : (set7 w b v0 v1 v2 v3 v4 v5 v6).cell? ⟨q, o, none⟩ = w.cell? ⟨q, o, none⟩ := by
  have e : ∀ (W : World) (j : Nat) (u : Value), (W.setCell ⟨b, j, none⟩ u).cell? ⟨q, o, none⟩ = W.cell? ⟨q, o, none⟩ := fun W j u => cell_eq (Below.heap_setCell _ _ _ _ (by simp; omega))
  unfold set7
  rw [e, e, e, e, e, e, e]
theorem OS.cells7 {w w1 : World} {p c k : Nat} {s : ByteArray} (hp : p < w.heap.size) (h : OS w p c s k w1) (v0 v1 v2 v3 v4 v5 v6 : Value) : (set7 w1 (w.heap.size + 1) v0 v1 v2 v3 v4 v5 v6).cell? ⟨w.heap.size, 0, none⟩ = some (.pointer (some ⟨p, 0, none⟩)) ∧ (set7 w1 (w.heap.size + 1) v0 v1 v2 v3 v4 v5 v6).cell? ⟨p, 0, none⟩ = some (.pointer (some ⟨c, 0, none⟩)) := by
  rw [cell_set7 (by omega), cell_set7 (by omega)]
  exact h.cells
theorem OS.cellsA {w w1 : World} {p c k : Nat} {s : ByteArray} (h : OS w p c s k w1) (o : Obj) : (w1.alloc o).cell? ⟨w.heap.size, 0, none⟩ = some (.pointer (some ⟨p, 0, none⟩)) ∧ (w1.alloc o).cell? ⟨p, 0, none⟩ = some (.pointer (some ⟨c, 0, none⟩)) :=
  (h.below ((Below.refl _ _).alloc (Nat.le_refl _) _)).cells
set_option maxHeartbeats 2000000 in
theorem own_let (p c k : Nat) (s : ByteArray) (w : World) (h : ScAt w p c s k) (hs : s.size ≤ 100000) (hl : isLet (bt s k) = true) :
    Calls Tryz.prog 44 #[.agg #[.pointer (some ⟨p, 0, none⟩)], .int .u8 ((bt s k).toNat : Int)] w (TokPost c s k (nameL ((s.data.toList.drop k).takeWhile isNam)) w) := by
  have hcl := h.cur.lt
  have hpl := h.lt
  have hsm : s.size ≤ maxLen := by unfold maxLen; omega
  have H := Lib.hid h
  clear h
  have hL := fun w1 => oneOf_any setL (bt s k) w1
  rw [setL_is, hl] at hL
  have HL := Lib.hid hL
  clear hL hl
  have hz := tw_size isNam s k
  have hzl := ba_len ((s.data.toList.drop k).takeWhile isNam)
  have HA := Lib.hid (nam_ascii (s.data.toList.drop k))
  have used : (nameL ((s.data.toList.drop k).takeWhile isNam)).err = 0 → (nameL ((s.data.toList.drop k).takeWhile isNam)).used = ((s.data.toList.drop k).takeWhile isNam).length := by
    unfold nameL; split
    · intro h; cases h
    · intro _; rfl
  have US := Lib.hid used
  have hLz : (ByteArray.mk (((s.data.toList.drop k).takeWhile isNam).map Lib.lowerB).toArray).size = ((s.data.toList.drop k).takeWhile isNam).length := by rw [ba_len, List.length_map]
  have hNT := fun (w1 : World) j (hw : ScAt w1 p c s j) => name_tok p c j s [⟨(((s.data.toList.drop k).takeWhile isNam).map Lib.lowerB).toArray⟩] (some ⟨w1.heap.size, 0, none⟩) 1 1 (w1.alloc (.cells #[.string ⟨(((s.data.toList.drop k).takeWhile isNam).map Lib.lowerB).toArray⟩] 9)) (hw.alloc _) (lit_strs w1 [⟨(((s.data.toList.drop k).takeWhile isNam).map Lib.lowerB).toArray⟩] (by simp [maxLen]) (by intro x hx; simp at hx; subst hx; unfold maxLen; omega)) (by decide) (by decide) (by rw [joinP_one]; show List.length (List.map _ _) ≤ _; rw [List.length_map]; omega)
  rw [nameP_one] at hNT
  have HN := Lib.hid hNT
  clear hNT hLz
  clear used
  have HW := Lib.hid fun w1 hc => while_tw c k s setN isNam w1 hc hsm (by decide) setN_is
  generalize (s.data.toList.drop k).takeWhile isNam = nm at *
  generalize hf : nameL nm = f
  have HF := Lib.hid hf
  clear hf
  have CW : Hid (∀ w1, OS w p c s k w1 → Calls Tryz.prog 71 #[.pointer (some ⟨c, 0, none⟩), .string setN] w1 fun e w' => e = .returned (.string ⟨nm.toArray⟩) ∧ OS w p c s (k + nm.length) w') :=
    Lib.hid fun w1 hw => (HW.out w1 hw.sc.cur).mono (by rintro e w' ⟨rfl, c1, o1⟩; exact ⟨rfl, hw.next hcl o1 c1⟩)
  have CL : Hid (∀ w1, OS w p c s (k + nm.length) w1 → Calls Tryz.prog 76 #[.string ⟨nm.toArray⟩] w1 fun e w' => e = .returned (.string ⟨(nm.map Lib.lowerB).toArray⟩) ∧ OS w p c s (k + nm.length) w') :=
    Lib.hid fun w1 hw => (Tryz.strings_ToLower_ascii ⟨nm.toArray⟩ w1 (by omega) (fun j b hb => HA.out j b hb)).mono (by rintro e w' ⟨rfl, b1⟩; exact ⟨rfl, hw.below b1⟩)
  have CN : Hid (∀ w1, OS w p c s (k + nm.length) w1 → Calls Tryz.prog 75 #[.pointer (some ⟨p, 0, none⟩), .slice (some ⟨w1.heap.size, 0, none⟩) 1 1] (w1.alloc (.cells #[.string ⟨(nm.map Lib.lowerB).toArray⟩] 9)) fun e w' => e = .returned (.tuple #[.agg #[.int .i64 (f.kind : Nat), .string ⟨f.text.toArray⟩, .int .i64 (f.n : Nat), .bool false, .int .i64 0, .int .i64 0, .int .i64 0], .int .i64 (f.err : Nat)]) ∧ OS w p c s (k + nm.length) w') :=
    Lib.hid fun w1 hw => (HN.out w1 (k + nm.length) hw.sc).mono (by rw [HF.out]; rintro e w' ⟨rfl, b1⟩; exact ⟨rfl, (hw.below ((Below.refl _ _).alloc (Nat.le_refl _) _)).below b1⟩)
  clear HW HN HA
  go_enter Tryz.func44, Tryz.ntmps44
  go_wp2_with fail
  refine (HL.out _).mono ?_
  have BZ := Lib.hid (BoxZ.new w p)
  have H0 := Lib.hid ((H.out.alloc (.cells #[.pointer (some ⟨p, 0, none⟩)] 83)).alloc (.cells #[.int .i64 0, .string ⟨#[]⟩, .int .i64 0, .bool false, .int .i64 0, .int .i64 0, .int .i64 0] 50))
  generalize (w.alloc (.cells #[.pointer (some ⟨p, 0, none⟩)] 83)).alloc (.cells #[.int .i64 0, .string ⟨#[]⟩, .int .i64 0, .bool false, .int .i64 0, .int .i64 0, .int .i64 0] 50) = w0 at BZ H0
  have x0 := BZ.out.cell
  rintro e w1 ⟨rfl, rfl⟩
  have ST := Lib.hid (OS.start BZ.out H0.out)
  clear BZ H0 x0
  go_wp2_with fail
  have hc := ST.out.drew.cells
  go_region_held3 (fun w' => w'.cell? ⟨w.heap.size, 0, none⟩ = some (.pointer (some ⟨p, 0, none⟩)) ∧ w'.cell? ⟨p, 0, none⟩ = some (.pointer (some ⟨c, 0, none⟩))) (first | with_reducible exact hc | with_reducible exact OS.cellsA st7.out _ | with_reducible exact st6.out.cells | with_reducible exact st7.out.cells | with_reducible exact st8.out.cells | with_reducible assumption | exact OS.cells7 hpl st8.out _ _ _ _ _ _ _)
    (first
      | (go_at_call 71; refine (CW.out _ ST.out.drew).mono ?_; rintro e w6 ⟨rfl, s6⟩; have st6 := Lib.hid s6; clear s6)
      | (go_at_call 76; with_reducible refine (CL.out _ st6.out).mono ?_; rintro e w7 ⟨rfl, s7⟩; have st7 := Lib.hid s7; clear s7)
      | (go_at_call 75; with_reducible refine (CN.out _ st7.out).mono ?_; rintro e w8 ⟨rfl, s8⟩; have st8 := Lib.hid s8; obtain ⟨g0, g1, g2, g3, g4, g5, g6, gf⟩ := s8.tok.facts; clear s8))
  go_wp2_with fail
  exact bodyPost_ret (v := .tuple #[tokV f, .int .i64 (f.err : Nat)]) (by simp [results, Tryz.results44, go_sem, tokV, g0, g1, g2, g3, g4, g5, g6]) rfl (post7 (f := f) (by omega) (by omega) st8.out.only (fun h => by have e := US.out (by rw [HF.out]; exact h); rw [HF.out] at e; rw [e]; exact st8.out.sc.cur) _ _ _ _ _ _ _)
set_option maxHeartbeats 1000000 in
theorem own_rest (p c k : Nat) (s : ByteArray) (w : World) (h : ScAt w p c s k) (hs : s.size ≤ maxLen) (hk : k < s.size) (hl : isLet (bt s k) = false) :
    Calls Tryz.prog 44 #[.agg #[.pointer (some ⟨p, 0, none⟩)], .int .u8 ((bt s k).toNat : Int)] w (TokPost c s k (ownF s k) w) := by
  have hcl := h.cur.lt
  have hpl := h.lt
  have H := Lib.hid h
  clear h
  have hL := fun w1 => oneOf_any setL (bt s k) w1
  rw [setL_is, hl] at hL
  have HL := Lib.hid hL
  clear hL
  cases h39 : bt s k == 39 with
  | true =>
    have F : ownF s k = quoteL (s.data.toList.drop k) := by unfold ownF; rw [hl, if_neg (by decide), if_pos h39]
    rw [F]
    have d1 : (((bt s k).toNat : Int) == 39) = true := by rw [show bt s k = 39 by simpa using h39]; rfl
    have HQ := Lib.hid fun w1 hw => quoted_tok p c k s w1 hw hs
    generalize quoteL (s.data.toList.drop k) = f at HQ ⊢
    clear F hl h39
    go_enter Tryz.func44, Tryz.ntmps44
    go_wp2_with fail
    refine (HL.out _).mono ?_
    have BZ := Lib.hid (BoxZ.new w p)
    have H0 := Lib.hid ((H.out.alloc (.cells #[.pointer (some ⟨p, 0, none⟩)] 83)).alloc (.cells #[.int .i64 0, .string ⟨#[]⟩, .int .i64 0, .bool false, .int .i64 0, .int .i64 0, .int .i64 0] 50))
    generalize (w.alloc (.cells #[.pointer (some ⟨p, 0, none⟩)] 83)).alloc (.cells #[.int .i64 0, .string ⟨#[]⟩, .int .i64 0, .bool false, .int .i64 0, .int .i64 0, .int .i64 0] 50) = w0 at BZ H0
    have x0 := BZ.out.cell
    rintro e w1 ⟨rfl, rfl⟩
    have ST := Lib.hid (OS.start BZ.out H0.out)
    clear BZ H0
    go_wp2_with fail
    refine (HQ.out _ ST.out.sc).mono ?_
    unfold TokPost tokV
    rintro e w4 ⟨rfl, o4, c4⟩
    have C4 := Lib.hid c4
    have O4 := Lib.hid (ST.out.only.trans o4)
    have Z4 := Lib.hid (ST.out.tok.only o4 (by omega))
    obtain ⟨g0, g1, g2, g3, g4, g5, g6, gf⟩ := Z4.out.facts
    clear c4 o4 x0
    go_wp2_with fail
    exact bodyPost_ret (v := .tuple #[tokV f, .int .i64 (f.err : Nat)]) (by simp [results, Tryz.results44, go_sem, tokV, g0, g1, g2, g3, g4, g5, g6]) rfl (post7 (f := f) (by omega) (by omega) O4.out C4.out _ _ _ _ _ _ _)
  | false =>
    have d1 : (((bt s k).toNat : Int) == 39) = false := by
      have h2 : bt s k ≠ 39 := by simpa using h39
      have h3 : (bt s k).toNat ≠ 39 := fun e => h2 (UInt8.toNat_inj.1 e)
      simp; omega
    cases h35 : bt s k == 35 with
    | true =>
      have F : ownF s k = hashL ((s.data.toList.drop (k + 1)).takeWhile isDig) := by unfold ownF; rw [hl, if_neg (by decide), h39, if_neg (by decide), if_pos h35]
      rw [F]
      have d2 : (((bt s k).toNat : Int) == 35) = true := by rw [show bt s k = 35 by simpa using h35]; rfl
      have HQ := Lib.hid fun w1 hw => numbered_tok p c k s w1 hw hs hk
      generalize hashL ((s.data.toList.drop (k + 1)).takeWhile isDig) = f at HQ ⊢
      clear F hl h39 h35
      go_enter Tryz.func44, Tryz.ntmps44
      go_wp2_with fail
      refine (HL.out _).mono ?_
      have BZ := Lib.hid (BoxZ.new w p)
      have H0 := Lib.hid ((H.out.alloc (.cells #[.pointer (some ⟨p, 0, none⟩)] 83)).alloc (.cells #[.int .i64 0, .string ⟨#[]⟩, .int .i64 0, .bool false, .int .i64 0, .int .i64 0, .int .i64 0] 50))
      generalize (w.alloc (.cells #[.pointer (some ⟨p, 0, none⟩)] 83)).alloc (.cells #[.int .i64 0, .string ⟨#[]⟩, .int .i64 0, .bool false, .int .i64 0, .int .i64 0, .int .i64 0] 50) = w0 at BZ H0
      have x0 := BZ.out.cell
      rintro e w1 ⟨rfl, rfl⟩
      have ST := Lib.hid (OS.start BZ.out H0.out)
      clear BZ H0
      go_wp2_with fail
      refine (HQ.out _ ST.out.sc).mono ?_
      unfold TokPost tokV
      rintro e w4 ⟨rfl, o4, c4⟩
      have C4 := Lib.hid c4
      have O4 := Lib.hid (ST.out.only.trans o4)
      have Z4 := Lib.hid (ST.out.tok.only o4 (by omega))
      obtain ⟨g0, g1, g2, g3, g4, g5, g6, gf⟩ := Z4.out.facts
      clear c4 o4 x0
      go_wp2_with fail
      exact bodyPost_ret (v := .tuple #[tokV f, .int .i64 (f.err : Nat)]) (by simp [results, Tryz.results44, go_sem, tokV, g0, g1, g2, g3, g4, g5, g6]) rfl (post7 (f := f) (by omega) (by omega) O4.out C4.out _ _ _ _ _ _ _)
    | false =>
      have F : ownF s k = signL (s.data.toList.drop k) := by unfold ownF; rw [hl, if_neg (by decide), h39, if_neg (by decide), h35, if_neg (by decide)]
      rw [F]
      have d2 : (((bt s k).toNat : Int) == 35) = false := by
        have h2 : bt s k ≠ 35 := by simpa using h35
        have h3 : (bt s k).toNat ≠ 35 := fun e => h2 (UInt8.toNat_inj.1 e)
        simp; omega
      have HQ := Lib.hid fun w1 a hw hS => sign_tok p c k s a w1 hw hs hS
      generalize signL (s.data.toList.drop k) = f at HQ ⊢
      clear F hl h39 h35
      go_enter Tryz.func44, Tryz.ntmps44
      go_wp2_with fail
      refine (HL.out _).mono ?_
      have BZ := Lib.hid (BoxZ.new w p)
      have H0 := Lib.hid ((H.out.alloc (.cells #[.pointer (some ⟨p, 0, none⟩)] 83)).alloc (.cells #[.int .i64 0, .string ⟨#[]⟩, .int .i64 0, .bool false, .int .i64 0, .int .i64 0, .int .i64 0] 50))
      generalize (w.alloc (.cells #[.pointer (some ⟨p, 0, none⟩)] 83)).alloc (.cells #[.int .i64 0, .string ⟨#[]⟩, .int .i64 0, .bool false, .int .i64 0, .int .i64 0, .int .i64 0] 50) = w0 at BZ H0
      have x0 := BZ.out.cell
      rintro e w1 ⟨rfl, rfl⟩
      have ST := Lib.hid (OS.start BZ.out H0.out)
      clear BZ H0
      go_wp2_with fail
      refine (HQ.out _ _ (ST.out.sc.alloc _) (lit_strs _ signsA (by decide) (by decide))).mono ?_
      have ST2 := Lib.hid (ST.out.below ((Below.refl _ _).alloc (Nat.le_refl _) (.cells (signsA.map Value.string).toArray 9)))
      unfold TokPost tokV
      rintro e w4 ⟨rfl, o4, c4⟩
      have C4 := Lib.hid c4
      have O4 := Lib.hid (ST2.out.only.trans o4)
      have Z4 := Lib.hid (ST2.out.tok.only o4 (by omega))
      obtain ⟨g0, g1, g2, g3, g4, g5, g6, gf⟩ := Z4.out.facts
      clear c4 o4 x0
      go_wp2_with fail
      exact bodyPost_ret (v := .tuple #[tokV f, .int .i64 (f.err : Nat)]) (by simp [results, Tryz.results44, go_sem, tokV, g0, g1, g2, g3, g4, g5, g6]) rfl (post7 (f := f) (by omega) (by omega) O4.out C4.out _ _ _ _ _ _ _)
theorem own_tok (p c k : Nat) (s : ByteArray) (w : World) (h : ScAt w p c s k) (hs : s.size ≤ 100000) (hk : k < s.size) :
    Calls Tryz.prog 44 #[.agg #[.pointer (some ⟨p, 0, none⟩)], .int .u8 ((bt s k).toNat : Int)] w (TokPost c s k (ownF s k) w) := by
  cases hl : isLet (bt s k) with
  | true =>
    have F : ownF s k = nameL ((s.data.toList.drop k).takeWhile isNam) := by unfold ownF; rw [if_pos hl]
    rw [F]
    exact own_let p c k s w h hs hl
  | false => exact own_rest p c k s w h (by unfold maxLen; omega) hk hl
end Go.Proofs.YtpcldpnaljheoaaGreatDoor.X.P
end
section
namespace Go.Proofs.YtpcldpnaljheoaaGreatDoor.X.P
open Go.RowKit Go.Sort

theorem ScAt.new (w : World) (s : ByteArray) : ScAt ((w.alloc (.cells #[.string s, .int .i64 0, .int .i64 0, .int .i64 0] 159)).alloc (.cells #[.pointer (some ⟨w.heap.size, 0, none⟩), .int .i64 0, .string s] 124)) (w.heap.size + 1) w.heap.size s 0 := by
  have e : (w.alloc (.cells #[.string s, .int .i64 0, .int .i64 0, .int .i64 0] 159)).heap.size = w.heap.size + 1 := by simp
  have hc := CurAt.new w s
  refine ⟨hc.stays (((Below.refl _ _).alloc (Nat.le_refl _) _).block _ hc.lt), ?_, by omega⟩
  rw [← e, heap_new]
set_option maxHeartbeats 400000 in
theorem newSc (s : ByteArray) (w : World) :
    Calls Tryz.prog 42 #[.int .i64 0, .string s] w fun e w' => e = .returned (.pointer (some ⟨w.heap.size + 1, 0, none⟩)) ∧ ScAt w' (w.heap.size + 1) w.heap.size s 0 ∧ Below w.heap.size w w' := by
  have hsc := Lib.hid (ScAt.new w s)
  have hb := Lib.hid (show Below w.heap.size w ((w.alloc (.cells #[.string s, .int .i64 0, .int .i64 0, .int .i64 0] 159)).alloc (.cells #[.pointer (some ⟨w.heap.size, 0, none⟩), .int .i64 0, .string s] 124)) from ((Below.refl _ _).alloc (Nat.le_refl _) _).alloc (by simp) _)
  go_enter Tryz.func42, Tryz.ntmps42
  go_wp2_with fail
  refine (new_any s _).mono ?_
  rintro e w1 ⟨rfl, rfl⟩
  go_wp2_with fail
  go_ret
  refine ⟨by simp, hsc.out, hb.out⟩
theorem beg_cons (c : UInt8) (r : List UInt8) : begL 0 (c :: r) = (c == 123) := by
  unfold begL begs
  rw [show diaB 0 = true from rfl, Bool.true_and, show opL 0 = [123] from rfl, hp_cons, hp_nil, Bool.and_true]
  exact Bool.beq_comm
theorem fd_note {s : ByteArray} {k : Nat} (h : k < s.size) (hc : (bt s k == 123) = true) : fdAt s k = noteL (123 :: s.data.toList.drop (k + 1)) := by
  unfold fdAt; rw [drop_bt s k h, tokL_cons, if_pos hc, show bt s k = 123 by simpa using hc]
theorem fd_int {s : ByteArray} {k : Nat} (h : k < s.size) (hc : (bt s k == 123) = false) (hd : isDig (bt s k) = true) : fdAt s k = intL ((s.data.toList.drop k).takeWhile isDig) := by
  unfold fdAt; rw [drop_bt s k h, tokL_cons, hc, if_neg (by decide), if_pos hd]
theorem fd_own {s : ByteArray} {k : Nat} (h : k < s.size) (hc : (bt s k == 123) = false) (hd : isDig (bt s k) = false) : fdAt s k = ownF s k := by
  unfold fdAt ownF; rw [drop_bt s k h, tokL_cons, hc, if_neg (by decide), hd, if_neg (by decide)]
set_option maxHeartbeats 1000000 in
theorem token_end (p c k : Nat) (s : ByteArray) (v : Value) (w : World) (h : ScAt w p c s k) (hs : s.size ≤ maxLen) (hk : ¬ k < s.size) :
    Calls Tryz.prog 73 #[.pointer (some ⟨p, 0, none⟩), v] w (TokPost c s k (bad 0) w) := by
  have hcl := h.cur.lt
  have hpl := h.lt
  have h0 := h.c0
  have H := Lib.hid h
  clear h
  have hP := fun w1 hc => peek_bt c k 0 s w1 hc hs
  rw [Nat.add_zero, decide_eq_false hk] at hP
  have HP := Lib.hid hP
  clear hP
  go_enter Tryz.func73, Tryz.ntmps73
  go_wp2_with fail
  refine (HP.out _ (H.out.alloc _).cur).mono ?_
  have Z := Lib.hid (TokZ.new w)
  have B := Lib.hid (show Below w.heap.size w (w.alloc (.cells #[.int .i64 0, .string ⟨#[]⟩, .int .i64 0, .bool false, .int .i64 0, .int .i64 0, .int .i64 0] 50)) from (Below.refl _ _).alloc (Nat.le_refl _) _)
  have H0 := Lib.hid (H.out.alloc (.cells #[.int .i64 0, .string ⟨#[]⟩, .int .i64 0, .bool false, .int .i64 0, .int .i64 0, .int .i64 0] 50))
  generalize w.alloc (.cells #[.int .i64 0, .string ⟨#[]⟩, .int .i64 0, .bool false, .int .i64 0, .int .i64 0, .int .i64 0] 50) = w0 at Z B H0
  rintro e w1 ⟨rfl, n, hw1⟩
  have Z1 := Lib.hid (show TokZ w1 w.heap.size by rw [hw1]; exact ⟨Z.out.blk⟩)
  have C1 := Lib.hid (show CurAt w1 c s k by rw [hw1]; exact H0.out.cur.drewN n)
  have O1 := Lib.hid (show Only c w w1 by rw [hw1]; exact ((Only.refl c w0).drewN n).from B.out)
  obtain ⟨g0, g1, g2, g3, g4, g5, g6, gf⟩ := Z1.out.facts
  clear hw1 Z B H0 h0
  go_wp2_with fail
  exact bodyPost_ret (v := .tuple #[tokV (bad 0), .int .i64 0]) (by simp [results, Tryz.results73, go_sem, tokV, bad, g0, g1, g2, g3, g4, g5, g6]) rfl (post7 (f := bad 0) (by omega) (by omega) O1.out (fun _ => C1.out) _ _ _ _ _ _ _)
set_option maxHeartbeats 2000000 in
theorem token_in (p c k : Nat) (s : ByteArray) (w : World) (h : ScAt w p c s k) (hs : s.size ≤ 100000) (hk : k < s.size) :
    Calls Tryz.prog 73 #[.pointer (some ⟨p, 0, none⟩), .func (.func 44) #[.agg #[.pointer (some ⟨p, 0, none⟩)]] #[]] w (TokPost c s k (fdAt s k) w) := by
  have hsm : s.size ≤ maxLen := by unfold maxLen; omega
  have hcl := h.cur.lt
  have hpl := h.lt
  have h0 := h.c0
  have H := Lib.hid h
  clear h
  have hP := fun w1 hc => peek_bt c k 0 s w1 hc hsm
  rw [Nat.add_zero, decide_eq_true hk] at hP
  have HP := Lib.hid hP
  clear hP
  have hB := fun w1 => begins_any 0 (restOf s k) w1
  rw [restOf_l, drop_bt s k hk, beg_cons] at hB
  have HRS := Lib.hid fun w1 hw => rest_any p c k s w1 hw
  have hD := fun w1 => oneOf_any setD (bt s k) w1
  rw [setD_has] at hD
  cases hc : bt s k == 123 with
  | true =>
    rw [hc] at hB
    have HB := Lib.hid hB
    rw [fd_note hk hc]
    have HQ := Lib.hid fun w1 hw => comment_tok p c k s (s.data.toList.drop (k + 1)) w1 hw hsm (by rw [drop_bt s k hk, show bt s k = 123 by simpa using hc])
    generalize noteL (123 :: s.data.toList.drop (k + 1)) = f at HQ ⊢
    clear hB hc hD
    go_enter Tryz.func73, Tryz.ntmps73
    go_wp2_with fail
    refine (HP.out _ (H.out.alloc _).cur).mono ?_
    have Z := Lib.hid (TokZ.new w)
    have B := Lib.hid (show Below w.heap.size w (w.alloc (.cells #[.int .i64 0, .string ⟨#[]⟩, .int .i64 0, .bool false, .int .i64 0, .int .i64 0, .int .i64 0] 50)) from (Below.refl _ _).alloc (Nat.le_refl _) _)
    have H0 := Lib.hid (H.out.alloc (.cells #[.int .i64 0, .string ⟨#[]⟩, .int .i64 0, .bool false, .int .i64 0, .int .i64 0, .int .i64 0] 50))
    generalize w.alloc (.cells #[.int .i64 0, .string ⟨#[]⟩, .int .i64 0, .bool false, .int .i64 0, .int .i64 0, .int .i64 0] 50) = w00 at Z B H0
    rintro e w0 ⟨rfl, n, hw1⟩
    have Z0 := Lib.hid (show TokZ w0 w.heap.size by rw [hw1]; exact ⟨Z.out.blk⟩)
    have S0 := Lib.hid (show ScAt w0 p c s k by rw [hw1]; exact H0.out.drewN n)
    have O0 := Lib.hid (show Only c w w0 by rw [hw1]; exact ((Only.refl c w00).drewN n).from B.out)
    clear hw1 Z B H0 h0
    go_wp2_with fail
    have k1 := cell_regrown S0.out.c1
    have cS : ∀ d os, Calls Tryz.prog 110 #[.pointer (some ⟨p, 0, none⟩)] (grow (redrawn w0 d) os) fun e w'' => e = .returned (.string (restOf s k)) ∧ ∃ p : Regrown, w'' = grow (redrawn w0 p.d) p.os := fun d os =>
      Calls.regrown_of (HRS.out _ (S0.out.below (below_regrown w0 d os)))
    have cR : ∀ d os, Calls Tryz.prog 109 #[.int .i64 0, .string (restOf s k)] (grow (redrawn w0 d) os) fun e w'' => e = .returned (.bool true) ∧ ∃ p : Regrown, w'' = grow (redrawn w0 p.d) p.os := fun d os =>
      Calls.regrown_of (HB.out _)
    have CS := Lib.hid cS
    have CR := Lib.hid cR
    clear cS cR
    refine wp_region_quiet_below (by kernel_rfl) (by kernel_rfl) ?_
    repeat (first | go_big_quiet_step ((first | with_reducible exact CS.out _ _ | with_reducible exact CR.out _ _)) | quiet_step ((first | with_reducible exact CS.out _ _ | with_reducible exact CR.out _ _)))
    refine wpQuiet_nil ?_
    intro w1 hw'
    obtain ⟨⟨dq, osq⟩, hw''⟩ := hw'
    have b1 : Below w0.heap.size w0 w1 := by rw [hw'']; exact below_regrown w0 dq osq
    have S1 := Lib.hid (S0.out.below b1)
    have Z1 := Lib.hid (Z0.out.below b1)
    have O1 := Lib.hid (O0.out.belowR b1)
    clear hw'' b1 k1 CS CR Z0 S0 O0
    go_wp2_with fail
    refine (HQ.out _ S1.out).mono ?_
    unfold TokPost tokV
    rintro e w4 ⟨rfl, o4, c4⟩
    have C4 := Lib.hid c4
    have O4 := Lib.hid (O1.out.trans o4)
    have Z4 := Lib.hid (Z1.out.only o4 (by omega))
    obtain ⟨g0, g1, g2, g3, g4, g5, g6, gf⟩ := Z4.out.facts
    clear c4 o4
    go_wp2_with fail
    exact bodyPost_ret (v := .tuple #[tokV f, .int .i64 (f.err : Nat)]) (by simp [results, Tryz.results73, go_sem, tokV, g0, g1, g2, g3, g4, g5, g6]) rfl (post7 (f := f) (by omega) (by omega) O4.out C4.out _ _ _ _ _ _ _)
  | false =>
    rw [hc] at hB
    have HB := Lib.hid hB
    clear hB
    cases hd : isDig (bt s k) with
    | true =>
      rw [hd] at hD
      have HD := Lib.hid hD
      rw [fd_int hk hc hd]
      have HQ := Lib.hid fun w1 hw => number_tok p c k s w1 hw hsm (by rw [drop_bt s k hk]; exact tw_pos hd)
      generalize intL ((s.data.toList.drop k).takeWhile isDig) = f at HQ ⊢
      clear hc hd hD
      go_enter Tryz.func73, Tryz.ntmps73
      go_wp2_with fail
      refine (HP.out _ (H.out.alloc _).cur).mono ?_
      have Z := Lib.hid (TokZ.new w)
      have B := Lib.hid (show Below w.heap.size w (w.alloc (.cells #[.int .i64 0, .string ⟨#[]⟩, .int .i64 0, .bool false, .int .i64 0, .int .i64 0, .int .i64 0] 50)) from (Below.refl _ _).alloc (Nat.le_refl _) _)
      have H0 := Lib.hid (H.out.alloc (.cells #[.int .i64 0, .string ⟨#[]⟩, .int .i64 0, .bool false, .int .i64 0, .int .i64 0, .int .i64 0] 50))
      generalize w.alloc (.cells #[.int .i64 0, .string ⟨#[]⟩, .int .i64 0, .bool false, .int .i64 0, .int .i64 0, .int .i64 0] 50) = w00 at Z B H0
      rintro e w0 ⟨rfl, n, hw1⟩
      have Z0 := Lib.hid (show TokZ w0 w.heap.size by rw [hw1]; exact ⟨Z.out.blk⟩)
      have S0 := Lib.hid (show ScAt w0 p c s k by rw [hw1]; exact H0.out.drewN n)
      have O0 := Lib.hid (show Only c w w0 by rw [hw1]; exact ((Only.refl c w00).drewN n).from B.out)
      clear hw1 Z B H0 h0
      go_wp2_with fail
      have k1 := cell_regrown S0.out.c1
      have cS : ∀ d os, Calls Tryz.prog 110 #[.pointer (some ⟨p, 0, none⟩)] (grow (redrawn w0 d) os) fun e w'' => e = .returned (.string (restOf s k)) ∧ ∃ p : Regrown, w'' = grow (redrawn w0 p.d) p.os := fun d os =>
        Calls.regrown_of (HRS.out _ (S0.out.below (below_regrown w0 d os)))
      have cR : ∀ d os, Calls Tryz.prog 109 #[.int .i64 0, .string (restOf s k)] (grow (redrawn w0 d) os) fun e w'' => e = .returned (.bool false) ∧ ∃ p : Regrown, w'' = grow (redrawn w0 p.d) p.os := fun d os =>
        Calls.regrown_of (HB.out _)
      have CS := Lib.hid cS
      have CR := Lib.hid cR
      clear cS cR
      refine wp_region_quiet_below (by kernel_rfl) (by kernel_rfl) ?_
      repeat (first | go_big_quiet_step ((first | with_reducible exact CS.out _ _ | with_reducible exact CR.out _ _)) | quiet_step ((first | with_reducible exact CS.out _ _ | with_reducible exact CR.out _ _)))
      refine wpQuiet_nil ?_
      intro w1 hw'
      obtain ⟨⟨dq, osq⟩, hw''⟩ := hw'
      have b1 : Below w0.heap.size w0 w1 := by rw [hw'']; exact below_regrown w0 dq osq
      have S1 := Lib.hid (S0.out.below b1)
      have Z1 := Lib.hid (Z0.out.below b1)
      have O1 := Lib.hid (O0.out.belowR b1)
      clear hw'' b1 k1 CS CR Z0 S0 O0
      go_wp2_with fail
      refine (HD.out _).mono ?_
      rintro e w3 ⟨rfl, rfl⟩
      go_wp2_with fail
      refine (HQ.out _ S1.out).mono ?_
      unfold TokPost tokV
      rintro e w4 ⟨rfl, o4, c4⟩
      have C4 := Lib.hid c4
      have O4 := Lib.hid (O1.out.trans o4)
      have Z4 := Lib.hid (Z1.out.only o4 (by omega))
      obtain ⟨g0, g1, g2, g3, g4, g5, g6, gf⟩ := Z4.out.facts
      clear c4 o4
      go_wp2_with fail
      exact bodyPost_ret (v := .tuple #[tokV f, .int .i64 (f.err : Nat)]) (by simp [results, Tryz.results73, go_sem, tokV, g0, g1, g2, g3, g4, g5, g6]) rfl (post7 (f := f) (by omega) (by omega) O4.out C4.out _ _ _ _ _ _ _)
    | false =>
      rw [hd] at hD
      have HD := Lib.hid hD
      rw [fd_own hk hc hd]
      have HQ := Lib.hid fun w1 hw => own_tok p c k s w1 hw hs hk
      generalize ownF s k = f at HQ ⊢
      clear hc hd hD
      go_enter Tryz.func73, Tryz.ntmps73
      go_wp2_with fail
      refine (HP.out _ (H.out.alloc _).cur).mono ?_
      have Z := Lib.hid (TokZ.new w)
      have B := Lib.hid (show Below w.heap.size w (w.alloc (.cells #[.int .i64 0, .string ⟨#[]⟩, .int .i64 0, .bool false, .int .i64 0, .int .i64 0, .int .i64 0] 50)) from (Below.refl _ _).alloc (Nat.le_refl _) _)
      have H0 := Lib.hid (H.out.alloc (.cells #[.int .i64 0, .string ⟨#[]⟩, .int .i64 0, .bool false, .int .i64 0, .int .i64 0, .int .i64 0] 50))
      generalize w.alloc (.cells #[.int .i64 0, .string ⟨#[]⟩, .int .i64 0, .bool false, .int .i64 0, .int .i64 0, .int .i64 0] 50) = w00 at Z B H0
      rintro e w0 ⟨rfl, n, hw1⟩
      have Z0 := Lib.hid (show TokZ w0 w.heap.size by rw [hw1]; exact ⟨Z.out.blk⟩)
      have S0 := Lib.hid (show ScAt w0 p c s k by rw [hw1]; exact H0.out.drewN n)
      have O0 := Lib.hid (show Only c w w0 by rw [hw1]; exact ((Only.refl c w00).drewN n).from B.out)
      clear hw1 Z B H0 h0
      go_wp2_with fail
      have k1 := cell_regrown S0.out.c1
      have cS : ∀ d os, Calls Tryz.prog 110 #[.pointer (some ⟨p, 0, none⟩)] (grow (redrawn w0 d) os) fun e w'' => e = .returned (.string (restOf s k)) ∧ ∃ p : Regrown, w'' = grow (redrawn w0 p.d) p.os := fun d os =>
        Calls.regrown_of (HRS.out _ (S0.out.below (below_regrown w0 d os)))
      have cR : ∀ d os, Calls Tryz.prog 109 #[.int .i64 0, .string (restOf s k)] (grow (redrawn w0 d) os) fun e w'' => e = .returned (.bool false) ∧ ∃ p : Regrown, w'' = grow (redrawn w0 p.d) p.os := fun d os =>
        Calls.regrown_of (HB.out _)
      have CS := Lib.hid cS
      have CR := Lib.hid cR
      clear cS cR
      refine wp_region_quiet_below (by kernel_rfl) (by kernel_rfl) ?_
      repeat (first | go_big_quiet_step ((first | with_reducible exact CS.out _ _ | with_reducible exact CR.out _ _)) | quiet_step ((first | with_reducible exact CS.out _ _ | with_reducible exact CR.out _ _)))
      refine wpQuiet_nil ?_
      intro w1 hw'
      obtain ⟨⟨dq, osq⟩, hw''⟩ := hw'
      have b1 : Below w0.heap.size w0 w1 := by rw [hw'']; exact below_regrown w0 dq osq
      have S1 := Lib.hid (S0.out.below b1)
      have Z1 := Lib.hid (Z0.out.below b1)
      have O1 := Lib.hid (O0.out.belowR b1)
      clear hw'' b1 k1 CS CR Z0 S0 O0
      go_wp2_with fail
      refine (HD.out _).mono ?_
      rintro e w3 ⟨rfl, rfl⟩
      go_wp2_with fail
      refine (HQ.out _ S1.out).mono ?_
      unfold TokPost tokV
      rintro e w4 ⟨rfl, o4, c4⟩
      have C4 := Lib.hid c4
      have O4 := Lib.hid (O1.out.trans o4)
      have Z4 := Lib.hid (Z1.out.only o4 (by omega))
      obtain ⟨g0, g1, g2, g3, g4, g5, g6, gf⟩ := Z4.out.facts
      clear c4 o4
      go_wp2_with fail
      exact bodyPost_ret (v := .tuple #[tokV f, .int .i64 (f.err : Nat)]) (by simp [results, Tryz.results73, go_sem, tokV, g0, g1, g2, g3, g4, g5, g6]) rfl (post7 (f := f) (by omega) (by omega) O4.out C4.out _ _ _ _ _ _ _)
theorem token_tok (p c k : Nat) (s : ByteArray) (w : World) (h : ScAt w p c s k) (hs : s.size ≤ 100000) :
    Calls Tryz.prog 73 #[.pointer (some ⟨p, 0, none⟩), .func (.func 44) #[.agg #[.pointer (some ⟨p, 0, none⟩)]] #[]] w (TokPost c s k (fdAt s k) w) := by
  by_cases hk : k < s.size
  · exact token_in p c k s w h hs hk
  · rw [fd_end s k hk]; exact token_end p c k s _ w h (by unfold maxLen; omega) hk
end Go.Proofs.YtpcldpnaljheoaaGreatDoor.X.P
end
section
namespace Go.Proofs.YtpcldpnaljheoaaGreatDoor.X.P
open Go.RowKit Go.Sort

def tkCells (t : Tk) : List Value := [.int .i64 (t.kind : Nat), .string ⟨t.text.toArray⟩, .int .i64 (t.n : Nat), .bool t.same, .int .i64 (t.pos : Nat), .int .i64 (t.line : Nat), .int .i64 (t.col : Nat)]
def tkAll (ts : List Tk) : List Value := ts.flatMap tkCells
theorem tkCells_len (t : Tk) : (tkCells t).length = 7 := rfl
theorem tkAll_len (ts : List Tk) : (tkAll ts).length = ts.length * 7 := by
  induction ts with
  | nil => rfl
  | cons t r ih => rw [show tkAll (t :: r) = tkCells t ++ tkAll r from rfl, List.length_append, ih, tkCells_len, List.length_cons]; omega
theorem tkAll_at (ts : List Tk) (i j : Nat) (t : Tk) (h : ts[i]? = some t) (hj : j < 7) : (tkAll ts)[i * 7 + j]? = (tkCells t)[j]? := by
  induction ts generalizing i with
  | nil => simp at h
  | cons x r ih =>
    rw [show tkAll (x :: r) = tkCells x ++ tkAll r from rfl]
    cases i with
    | zero =>
      simp at h
      subst h
      rw [List.getElem?_append_left (by rw [tkCells_len]; omega)]
      congr 1
      omega
    | succ i =>
      rw [List.getElem?_append_right (by rw [tkCells_len]; omega), tkCells_len, show (i + 1) * 7 + j - 7 = i * 7 + j by omega]
      exact ih i (by simpa using h)
/-- v is a list of tokens of one's own, from the block 'base' on. -/
def OwnT (base : Nat) (w : World) (v : Value) (ts : List Tk) : Prop := w.ownsRow base 50 7 v ts.length (tkAll ts)
theorem OwnT.nil (base : Nat) (w : World) : OwnT base w (.slice none 0 0) [] := World.ownsRow_nil _ _ _ _
theorem OwnT.lt {base : Nat} {w : World} {v : Value} {ts : List Tk} (h : OwnT base w v ts) (k : Nat) (hk : v.ownBlock = some k) : base ≤ k ∧ k < w.heap.size := World.ownsRow.lt h k hk
theorem OwnT.kept {base : Nat} {w w' : World} {v : Value} {ts : List Tk} (h : OwnT base w v ts) (hb : ∀ k, v.ownBlock = some k → w'.heap[k]? = w.heap[k]?) : OwnT base w' v ts := by
  refine ⟨h.1, ?_⟩
  rcases h.2 with h4 | ⟨g, cap, cur, hv, hb', hg, r⟩
  · exact .inl h4
  · exact .inr ⟨g, cap, cur, hv, hb', (hb g (by rw [hv]; rfl)).trans hg, r⟩
theorem OwnT.below {base : Nat} {w w' : World} {v : Value} {ts : List Tk} (h : OwnT base w v ts) (hb : Below w.heap.size w w') : OwnT base w' v ts :=
  h.kept fun k hk => hb.block k (h.lt k hk).2
theorem OwnT.only {base c : Nat} {w w' : World} {v : Value} {ts : List Tk} (h : OwnT base w v ts) (hc : c < base) (hb : Only c w w') : OwnT base w' v ts :=
  h.kept fun k hk => hb.block k (by have := (h.lt k hk).1; omega) (h.lt k hk).2
theorem OwnT.mono {b b' : Nat} {w : World} {v : Value} {ts : List Tk} (h : OwnT b w v ts) (hb : b' ≤ b) : OwnT b' w v ts := by
  refine ⟨h.1, ?_⟩
  rcases h.2 with h4 | ⟨g, cap, cur, hv, hb', r⟩
  · exact .inl h4
  · exact .inr ⟨g, cap, cur, hv, Nat.le_trans hb hb', r⟩
/-- The slice, and where its cells lie. -/
theorem OwnT.slice {base : Nat} {w : World} {v : Value} {ts : List Tk} (h : OwnT base w v ts) : (v = .slice none 0 0 ∧ ts = []) ∨ ∃ g cap, v = .slice (some ⟨g, 0, none⟩) ts.length cap ∧ base ≤ g ∧ g < w.heap.size ∧ ts.length ≤ cap ∧ cap ≤ maxLen ∧ ∀ i t, ts[i]? = some t → ∀ j u, (tkCells t)[j]? = some u → w.cell? ⟨g, i * 7 + j, none⟩ = some u := by
  rcases h.2 with ⟨rfl, h4⟩ | ⟨g, cap, cur, rfl, hb, hg, hn, hm, hs, ht⟩
  · exact .inl ⟨rfl, List.eq_nil_of_length_eq_zero h4⟩
  · refine .inr ⟨g, cap, rfl, hb, heap_lt hg, hn, hm, fun i t hi j u hj => ?_⟩
    have hj7 : j < 7 := by have := (List.getElem?_eq_some_iff.1 hj).1; rw [tkCells_len] at this; exact this
    have hil : i < ts.length := (List.getElem?_eq_some_iff.1 hi).1
    have h1 := tkAll_at ts i j t hi hj7
    rw [hj, ← ht, List.getElem?_take_of_lt (by omega)] at h1
    unfold World.cell?
    simp only [hg]
    simpa using h1
theorem info38 : (Tryz.prog.info? 50).map (fun i => (i.zero, i.size, i.bytes)) = some (some (.agg #[.int .i64 0, .string ⟨#[]⟩, .int .i64 0, .bool false, .int .i64 0, .int .i64 0, .int .i64 0]), 7, 64) := by kernel_rfl
theorem add_mid2 (b o j : Nat) : (⟨b, o, none⟩ : Addr).add j = ⟨b, o + j, none⟩ := by unfold Addr.add; split <;> simp_all
theorem run_appT {base : Nat} {w : World} {v : Value} {ts : List Tk} (ty : TypeId) (h : OwnT base w v ts) (hbase : base ≤ w.heap.size) {b o m cap : Nat} {ns : List Tk}
    (hm : ns.length = m) (hn : ∀ j u, (tkAll ns)[j]? = some u → w.cell? ⟨b, o + j, none⟩ = some u) (hb : ts.length + m ≤ 1000000) :
    ∃ v' w', (Builtin.append_ #[45, 45] ty #[v, .slice (some ⟨b, o, none⟩) m cap]).run Tryz.prog w = .ok v' w' ∧ OwnT base w' v' (ts ++ ns) ∧ w.grownBy w' v.ownBlock := by
  obtain ⟨i, hi, hz0, hz1, hz2⟩ := info_parts info38
  obtain ⟨v', w', h1, h2, h3, _⟩ := run_append_own (P := Tryz.prog) w base 45 ty 50 i _ 7 64 Tryz.underlying45 hi hz0 hz1 hz2 rfl (by decide) v ts.length (tkAll ts) h ⟨b, o, none⟩ m cap (tkAll ns) (by rw [tkAll_len, hm]) (fun j u hu => by rw [add_mid2]; exact hn j u hu) (by
    intro u hu
    unfold tkAll at hu
    obtain ⟨t, _, ht⟩ := List.mem_flatMap.1 hu
    simp only [tkCells, List.mem_cons, List.mem_nil_iff, or_false] at ht
    rcases ht with rfl | rfl | rfl | rfl | rfl | rfl | rfl <;> rfl) (by unfold maxLen; omega) (by omega) hbase
  refine ⟨v', w', h1, ?_, h3⟩
  unfold OwnT
  rw [List.length_append, hm, show tkAll (ts ++ ns) = tkAll ts ++ tkAll ns by simp [tkAll]]
  exact h2
theorem wp_appT {ops : Array Oper} {rest : List Oper} {o : Oper} {a : Act} {Q : Exit → Act → World → Prop} (hgd : o.guard = none) (sl x : Operand)
    (ho : o.op = .call { callee := .builtin .append, args := #[sl, x], argTypes := #[45, 45] })
    {base : Nat} {w : World} {v : Value} {ts : List Tk} (t : Tk) (cs : Array Value) (hcs : cs.toList = tkCells t) (h : OwnT base w v ts) (hbase : base ≤ w.heap.size) (hs : a.eval sl = v) (hx : a.eval x = .slice (some ⟨w.heap.size, 0, none⟩) 1 1) (hb : ts.length ≤ 100000)
    (hk : ∀ v' w', OwnT base w' v' (ts ++ [t]) → (w.alloc (.cells cs 50)).grownBy w' v.ownBlock → wpList Tryz.prog ops Q rest (a.put o.dst v') w') :
    wpList Tryz.prog ops Q (o :: rest) a (w.alloc (.cells cs 50)) := by
  refine wpList_plain hgd fun K hK => ?_
  obtain ⟨v', w', hr, h2, h3⟩ := run_appT (w := w.alloc (.cells cs 50)) o.type (h.below ((Below.refl _ _).alloc (Nat.le_refl _) _)) (by simp; omega) (b := w.heap.size) (o := 0) (m := 1) (cap := 1) (ns := [t]) rfl (fun j u hu => by
    have e := heap_new w (.cells cs 50)
    rw [show tkAll [t] = tkCells t by simp [tkAll], ← hcs] at hu
    unfold World.cell?
    simp only [e]
    simpa using hu) (by omega)
  unfold Oper.wp execOp
  simp only [ho, resolve, invoke, builtin, Sem.run_bind, Sem.run_pure, Result.andThen_ok, List.map_toArray, List.map_cons, List.map_nil, hs, hx, hr]
  exact hK _ _ (hk v' w' h2 h3)

def diagV (s : ByteArray) (r : Res) : Value := .agg #[.int .i64 (r.code : Nat), .int .i64 (r.pos : Nat), .int .i64 (lineOf s r.pos : Nat), .int .i64 (colOf s r.pos : Nat)]
/-- The state of a loop over tokens. -/
structure LS (w : World) (p c : Nat) (s : ByteArray) (k : Nat) (v : Value) (acc : List Tk) (wr : World) : Prop where
  sc : ScAt wr p c s k
  own : OwnT (w.heap.size + 1) wr v acc
  dz : wr.heap[w.heap.size]? = some (.cells #[.int .i64 0, .int .i64 0, .int .i64 0, .int .i64 0] 30)
  only : Only c w wr
  pl : p < w.heap.size
  cl : c < w.heap.size
theorem LS.next {w wr w2 : World} {p c k j : Nat} {s : ByteArray} {v : Value} {acc : List Tk} (h : LS w p c s k v acc wr) (o : Only c wr w2) (cu : CurAt w2 c s j) : LS w p c s j v acc w2 :=
  ⟨h.sc.only o cu, h.own.only (by have := h.cl; omega) o, (o.block _ (by have := h.cl; omega) (heap_lt h.dz)).trans h.dz, h.only.trans o, h.pl, h.cl⟩
theorem LS.below {w wr w2 : World} {p c k : Nat} {s : ByteArray} {v : Value} {acc : List Tk} (h : LS w p c s k v acc wr) (b : Below wr.heap.size wr w2) : LS w p c s k v acc w2 :=
  ⟨h.sc.below b, h.own.below b, (b.block _ (heap_lt h.dz)).trans h.dz, h.only.belowR b, h.pl, h.cl⟩
theorem LS.app {w wr w2 : World} {p c k : Nat} {s : ByteArray} {v v' : Value} {acc acc' : List Tk} (h : LS w p c s k v acc wr) (g : wr.grownBy w2 v.ownBlock) (o : OwnT (w.heap.size + 1) w2 v' acc') : LS w p c s k v' acc' w2 := by
  have hne : ∀ b, b < w.heap.size + 1 → some b ≠ v.ownBlock := fun b hb e => by have := (h.own.lt b e.symm).1; omega
  have hp := h.pl
  have hc := h.cl
  refine ⟨⟨h.sc.cur.stays (g.block c h.sc.cur.lt (hne c (by omega))), (g.block p h.sc.lt (hne p (by omega))).trans h.sc.blk, h.sc.ne⟩, o, (g.block _ (heap_lt h.dz) (hne _ (by omega))).trans h.dz, ?_, hp, hc⟩
  exact ⟨g.os.trans h.only.os, g.tape.trans h.only.tape, g.output.trans h.only.output, Nat.le_trans h.only.size g.size, fun b hb hs => (g.block b (Nat.lt_of_lt_of_le hs h.only.size) (hne b (by omega))).trans (h.only.block b hb hs)⟩
theorem LS.dzf {w wr : World} {p c k : Nat} {s : ByteArray} {v : Value} {acc : List Tk} (h : LS w p c s k v acc wr) : wr.cell? ⟨w.heap.size, 0, none⟩ = some (.int .i64 0) ∧ wr.cell? ⟨w.heap.size, 1, none⟩ = some (.int .i64 0) ∧ wr.cell? ⟨w.heap.size, 2, none⟩ = some (.int .i64 0) ∧ wr.cell? ⟨w.heap.size, 3, none⟩ = some (.int .i64 0) ∧ ∀ o, wr.frozen? ⟨w.heap.size, o, none⟩ = false := by
  have := h.dz
  refine ⟨?_, ?_, ?_, ?_, fun o => ?_⟩ <;> simp [World.cell?, World.frozen?, this]
/-- What Tokens leaves. -/
def ToksPost (c : Nat) (s : ByteArray) (r : Res) (w : World) (e : Ending) (w' : World) : Prop := ∃ v, e = .returned (.tuple #[v, diagV s r]) ∧ OwnT w.heap.size w' v r.toks ∧ Only c w w'
end Go.Proofs.YtpcldpnaljheoaaGreatDoor.X.P
end
section
namespace Go.Proofs.YtpcldpnaljheoaaGreatDoor.X.P
open Go.RowKit Go.Sort

theorem lexN_err {s : ByteArray} {m k : Nat} {last : Int} {acc : List Tk} {f : Fd} (hf : fdAt s (blEnd s k) = f) (h : f.err ≠ 0) : lexN s (m + 1) k last acc = ⟨f.err, blEnd s k, []⟩ := by rw [lexN_succ, hf, if_pos h]
theorem lexN_end {s : ByteArray} {m k : Nat} {last : Int} {acc : List Tk} {f : Fd} (hf : fdAt s (blEnd s k) = f) (h : f.err = 0) (h0 : f.kind = 0) : lexN s (m + 1) k last acc = ⟨0, 0, acc ++ [mkT s f (blEnd s k) last]⟩ := by rw [lexN_succ, hf, if_neg (by omega), if_pos h0]
theorem lexN_tok {s : ByteArray} {m k : Nat} {last : Int} {acc : List Tk} {f : Fd} (hf : fdAt s (blEnd s k) = f) (h : f.err = 0) (h0 : f.kind ≠ 0) : lexN s (m + 1) k last acc = lexN s m (blEnd s k + f.used) (lineOf s (blEnd s k + f.used)) (acc ++ [mkT s f (blEnd s k) last]) := by rw [lexN_succ, hf, if_neg (by omega), if_neg h0]
theorem _root_.Go.Proofs.YtpcldpnaljheoaaGreatDoor.X.Only.drew {b : Nat} {a w : World} (h : Only b a w) : Only b a w.drew := ⟨h.os, h.tape, h.output, h.size, h.block⟩
set_option maxHeartbeats 1000000 in
theorem tokens_long (p c : Nat) (s : ByteArray) (fv : Value) (w : World) (h : ScAt w p c s 0) (hl : 65536 < s.size) :
    Calls Tryz.prog 43 #[.pointer (some ⟨p, 0, none⟩), fv] w (ToksPost c s ⟨3, 0, []⟩ w) := by
  have hpl := h.lt
  have h2 := h.c2
  have d : decide ((65536 : Int) < (s.size : Int)) = true := by simp; omega
  clear h
  go_enter Tryz.func43, Tryz.ntmps43
  go_wp2_with fail
  exact bodyPost_ret (v := .tuple #[.slice none 0 0, diagV s ⟨3, 0, []⟩]) (by simp [results, Tryz.results43, go_sem, diagV, line_zero, col_zero]) rfl ⟨_, rfl, OwnT.nil _ _, (Only.refl c w).alloc _⟩
set_option maxRecDepth 10000 in
set_option maxHeartbeats 4000000 in
theorem tokens_any (p c : Nat) (s : ByteArray) (w : World) (h : ScAt w p c s 0) (hl : s.size ≤ 65536) :
    Calls Tryz.prog 43 #[.pointer (some ⟨p, 0, none⟩), .func (.func 44) #[.agg #[.pointer (some ⟨p, 0, none⟩)]] #[]] w (ToksPost c s (lexN s (s.size + 1) 0 (-1) []) w) := by
  have hpl := h.lt
  have hcl := h.cur.lt
  have h2 := h.c2
  have hsm : s.size ≤ maxLen := by unfold maxLen; omega
  have d : decide ((65536 : Int) < (s.size : Int)) = false := by simp; omega
  have ST := Lib.hid (show LS w p c s 0 (.slice none 0 0) [] (w.alloc (.cells #[.int .i64 0, .int .i64 0, .int .i64 0, .int .i64 0] 30)) from ⟨h.alloc _, OwnT.nil _ _, heap_new _ _, (Only.refl c w).alloc _, hpl, hcl⟩)
  clear h
  generalize hR : lexN s (s.size + 1) 0 (-1) [] = R
  have HR := Lib.hid hR
  clear hR
  have HW := Lib.hid fun w1 k hc => while_tw c k s setB isBl w1 hc hsm (by decide) setB_is
  go_enter Tryz.func43, Tryz.ntmps43
  go_wp2_with fail
  generalize w.alloc (.cells #[.int .i64 0, .int .i64 0, .int .i64 0, .int .i64 0] 30) = w0 at ST
  clear h2 d
  go_loopw [6, 7] (fun v l wr => ∃ (k m : Nat) (last : Int) (acc : List Tk), l = .int .i64 last ∧ LS w p c s k v acc wr ∧ s.size - k < m ∧ lexN s m k last acc = R ∧ acc.length ≤ k) (fun _ _ wr => leftOf s c wr)
  case atStart => exact ⟨0, s.size + 1, -1, [], rfl, ST.out, by omega, HR.out, by simp⟩
  case round =>
    obtain ⟨k, m, last, acc, rfl, hst, hm, hlx, hal⟩ := hrel
    have S := Lib.hid hst
    have LX := Lib.hid hlx
    have h0 := hst.sc.c0
    have hk := hst.sc.cur.le
    clear hst hlx ST HR
    obtain ⟨m, rfl⟩ : ∃ m', m = m' + 1 := ⟨m - 1, by omega⟩
    go_wp2_with fail
    refine (HW.out _ k S.out.sc.cur).mono ?_
    rintro e w1 ⟨rfl, c1, o1⟩
    have c1 : CurAt w1 c s (blEnd s k) := c1
    have hbl := blEnd_bd s k hk
    generalize hj : blEnd s k = j at c1 hbl
    have HJ := Lib.hid hj
    have S1 := Lib.hid (S.out.next o1 c1)
    have h01 := S1.out.sc.c0
    clear c1 o1 hj h0
    go_wp2_with fail
    refine (pos_any c j s _ S1.out.sc.cur).mono ?_
    rintro e w2 ⟨rfl, b2⟩
    have S2 := Lib.hid (S1.out.below b2)
    clear b2 S1 h01
    go_wp2_with fail
    have hp3 := heap_new w2 (.cells #[.int .i64 (j : Nat), .int .i64 (lineOf s j : Nat), .int .i64 (colOf s j : Nat)] 28)
    have S3 := Lib.hid (S2.out.below ((Below.refl _ _).alloc (Nat.le_refl _) (.cells #[.int .i64 (j : Nat), .int .i64 (lineOf s j : Nat), .int .i64 (colOf s j : Nat)] 28)))
    have hcw : c < w2.heap.size := S2.out.sc.cur.lt
    clear S2
    generalize w2.alloc (.cells #[.int .i64 (j : Nat), .int .i64 (lineOf s j : Nat), .int .i64 (colOf s j : Nat)] 28) = w3 at hp3 S3 ⊢
    have HP3 := Lib.hid hp3
    clear hp3
    generalize hf : fdAt s j = f
    have hfu := fd_use s j
    have hfe := fd_end s j
    refine (token_tok p c j s _ S3.out.sc (by omega)).mono ?_
    rw [hf] at hfu hfe ⊢
    have HFU := Lib.hid hfu
    have HFE := Lib.hid hfe
    clear hfu hfe
    have HF := Lib.hid (show fdAt s (blEnd s k) = f by rw [HJ.out]; exact hf)
    have HJ2 := Lib.hid hf
    clear hf
    unfold TokPost tokV
    rintro e w4 ⟨rfl, o4, c4⟩
    have hp4 : w4.heap[w2.heap.size]? = some (.cells #[.int .i64 (j : Nat), .int .i64 (lineOf s j : Nat), .int .i64 (colOf s j : Nat)] 28) := (o4.block _ (by omega) (heap_lt HP3.out)).trans HP3.out
    have q0 : w4.cell? ⟨w2.heap.size, 0, none⟩ = some (.int .i64 (j : Nat)) := by simp [World.cell?, hp4]
    have q1 : w4.cell? ⟨w2.heap.size, 1, none⟩ = some (.int .i64 (lineOf s j : Nat)) := by simp [World.cell?, hp4]
    have q2 : w4.cell? ⟨w2.heap.size, 2, none⟩ = some (.int .i64 (colOf s j : Nat)) := by simp [World.cell?, hp4]
    have hq : w2.heap.size < w4.heap.size := heap_lt hp4
    clear hp4 HP3
    by_cases he : f.err = 0
    · have d1 : ((f.err : Int) != 0) = false := by rw [he]; rfl
      have S4 := Lib.hid (S3.out.next o4 (c4 he))
      clear o4 c4 S3
      generalize hkk : j + f.used = kk at S4
      have HKK := Lib.hid hkk
      clear hkk
      have gl := field_line (kk : Int) (lineOf s kk : Int) (colOf s kk : Int)
      generalize hsm : decide ((lineOf s j : Int) = last) = sm
      have d2 : ((lineOf s j : Int) == last) = sm := by rw [← hsm]; exact Bool.beq_eq_decide_eq _ _
      have HSM := Lib.hid hsm
      clear hsm
      have h04 := S4.out.sc.c0
      have hp4l : p < w4.heap.size := S4.out.sc.lt
      go_wp2_with fail
      have hb5 := heap_new w4 (.cells #[.int .i64 (f.kind : Nat), .string ⟨f.text.toArray⟩, .int .i64 (f.n : Nat), .bool sm, .int .i64 (j : Nat), .int .i64 (lineOf s j : Nat), .int .i64 (colOf s j : Nat)] 50)
      have S5 := Lib.hid (S4.out.below ((Below.refl _ _).alloc (Nat.le_refl _) (.cells #[.int .i64 (f.kind : Nat), .string ⟨f.text.toArray⟩, .int .i64 (f.n : Nat), .bool sm, .int .i64 (j : Nat), .int .i64 (lineOf s j : Nat), .int .i64 (colOf s j : Nat)] 50)))
      refine (pos_any c kk s _ S5.out.sc.cur).mono ?_
      generalize w4.alloc (.cells #[.int .i64 (f.kind : Nat), .string ⟨f.text.toArray⟩, .int .i64 (f.n : Nat), .bool sm, .int .i64 (j : Nat), .int .i64 (lineOf s j : Nat), .int .i64 (colOf s j : Nat)] 50) = w5 at hb5 S5
      rintro e w6 ⟨rfl, b6⟩
      have S6 := Lib.hid (S5.out.below b6)
      have hb6 : w6.heap[w4.heap.size]? = some (.cells #[.int .i64 (f.kind : Nat), .string ⟨f.text.toArray⟩, .int .i64 (f.n : Nat), .bool sm, .int .i64 (j : Nat), .int .i64 (lineOf s j : Nat), .int .i64 (colOf s j : Nat)] 50) := (b6.block _ (heap_lt hb5)).trans hb5
      have y0 : w6.cell? ⟨w4.heap.size, 0, none⟩ = some (.int .i64 (f.kind : Nat)) := by simp [World.cell?, hb6]
      have y1 : w6.cell? ⟨w4.heap.size, 1, none⟩ = some (.string ⟨f.text.toArray⟩) := by simp [World.cell?, hb6]
      have y2 : w6.cell? ⟨w4.heap.size, 2, none⟩ = some (.int .i64 (f.n : Nat)) := by simp [World.cell?, hb6]
      have y3 : w6.cell? ⟨w4.heap.size, 3, none⟩ = some (.bool sm) := by simp [World.cell?, hb6]
      have y4 : w6.cell? ⟨w4.heap.size, 4, none⟩ = some (.int .i64 (j : Nat)) := by simp [World.cell?, hb6]
      have y5 : w6.cell? ⟨w4.heap.size, 5, none⟩ = some (.int .i64 (lineOf s j : Nat)) := by simp [World.cell?, hb6]
      have y6 : w6.cell? ⟨w4.heap.size, 6, none⟩ = some (.int .i64 (colOf s j : Nat)) := by simp [World.cell?, hb6]
      have hl6 : w4.heap.size < w6.heap.size := heap_lt hb6
      have HB6 := Lib.hid hb6
      have hown4 := Lib.hid fun k hk => (S4.out.own.lt k hk).2
      clear hb5 S5 b6 hb6 S4 h04 q0 q1 q2
      have hlen : acc.length ≤ 100000 := by omega
      have hsz6 : w.heap.size + 1 ≤ w6.heap.size := by have := heap_lt S6.out.dz; omega
      have HMK := Lib.hid (show mkT s f j last = (⟨f.kind, f.text, f.n, sm, j, lineOf s j, colOf s j⟩ : Tk) by unfold mkT; rw [HSM.out])
      by_cases hkd : f.kind = 0
      · have d3 : ((f.kind : Int) == 0) = true := by rw [hkd]; rfl
        obtain rfl : R = ⟨0, 0, acc ++ [(⟨f.kind, f.text, f.n, sm, j, lineOf s j, colOf s j⟩ : Tk)]⟩ := by rw [← LX.out, lexN_end HF.out he hkd, HJ.out, HMK.out]
        have HKD := Lib.hid hkd
        clear LX hkd
        have tok1 : True := trivial
        go_wp2_with (have _t := tok1; at_builtin; refine wp_appT rfl (.tmp 52) (.tmp 54) rfl (⟨f.kind, f.text, f.n, sm, j, lineOf s j, colOf s j⟩ : Tk) #[.int .i64 (f.kind : Nat), .string ⟨f.text.toArray⟩, .int .i64 (f.n : Nat), .bool sm, .int .i64 (j : Nat), .int .i64 (lineOf s j : Nat), .int .i64 (colOf s j : Nat)] rfl S6.out.own hsz6 rfl rfl hlen ?_; intro v7 w7 o7 g7; have S7 := Lib.hid ((S6.out.below ((Below.refl _ _).alloc (Nat.le_refl _) _)).app g7 o7); have HB7 := Lib.hid (show w7.heap[w4.heap.size]? = some (.cells #[.int .i64 (f.kind : Nat), .string ⟨f.text.toArray⟩, .int .i64 (f.n : Nat), .bool sm, .int .i64 (j : Nat), .int .i64 (lineOf s j : Nat), .int .i64 (colOf s j : Nat)] 50) by (rw [g7.block _ (by simp; omega) (fun e => by have := hown4.out _ e.symm; omega), ((Below.refl _ w6).alloc (Nat.le_refl _) _).block _ hl6]; exact HB6.out)); have y7 : w7.cell? ⟨w4.heap.size, 0, none⟩ = some (.int .i64 (f.kind : Nat)) := (by have := HB7.out; simp [World.cell?, this]); obtain ⟨z0, z1, z2, z3, zf⟩ := S7.out.dzf; clear o7 g7 y0 y1 y2 y3 y4 y5 y6 tok1)
        refine bodyPost_ret (v := .tuple #[v7, diagV s ⟨0, 0, acc ++ [(⟨f.kind, f.text, f.n, sm, j, lineOf s j, colOf s j⟩ : Tk)]⟩]) (by simp [results, Tryz.results43, go_sem, diagV, z0, z1, z2, z3, line_zero, col_zero]) rfl ⟨v7, rfl, ?_, (((S7.out.only.new (Nat.le_refl _) _).new (Nat.le_refl _) _).new (Nat.le_refl _) _).new (Nat.le_refl _) _⟩
        refine OwnT.kept (S7.out.own.mono (Nat.le_succ _)) fun b hb => ?_
        have hb1 := (S7.out.own.lt b hb).1
        rw [Below.heap_setCell _ _ _ _ (by simp; omega), Below.heap_setCell _ _ _ _ (by simp; omega), Below.heap_setCell _ _ _ _ (by simp; omega), Below.heap_setCell _ _ _ _ (by simp; omega)]
      · have d3 : ((f.kind : Int) == 0) = false := by simp; omega
        have hjs : j < s.size := by
          rcases Nat.lt_or_ge j s.size with g | g
          · exact g
          · have := HFE.out (by omega); rw [this] at hkd; exact absurd rfl hkd
        have hus := (HFU.out hjs he).1
        have hke := HKK.out
        have hlx2 : lexN s m kk (lineOf s kk) (acc ++ [(⟨f.kind, f.text, f.n, sm, j, lineOf s j, colOf s j⟩ : Tk)]) = R := by rw [← LX.out, lexN_tok HF.out he hkd, HJ.out, HKK.out, HMK.out]
        have LX2 := Lib.hid hlx2
        have hm2 : s.size - kk < m := by omega
        have hjk : acc.length + 1 ≤ kk := by omega
        have hkk2 : k < kk := by omega
        clear hlx2 hke
        have tok1 : True := trivial
        go_wp2_with (have _t := tok1; at_builtin; refine wp_appT rfl (.tmp 52) (.tmp 54) rfl (⟨f.kind, f.text, f.n, sm, j, lineOf s j, colOf s j⟩ : Tk) #[.int .i64 (f.kind : Nat), .string ⟨f.text.toArray⟩, .int .i64 (f.n : Nat), .bool sm, .int .i64 (j : Nat), .int .i64 (lineOf s j : Nat), .int .i64 (colOf s j : Nat)] rfl S6.out.own hsz6 rfl rfl hlen ?_; intro v7 w7 o7 g7; have S7 := Lib.hid ((S6.out.below ((Below.refl _ _).alloc (Nat.le_refl _) _)).app g7 o7); have HB7 := Lib.hid (show w7.heap[w4.heap.size]? = some (.cells #[.int .i64 (f.kind : Nat), .string ⟨f.text.toArray⟩, .int .i64 (f.n : Nat), .bool sm, .int .i64 (j : Nat), .int .i64 (lineOf s j : Nat), .int .i64 (colOf s j : Nat)] 50) by (rw [g7.block _ (by simp; omega) (fun e => by have := hown4.out _ e.symm; omega), ((Below.refl _ w6).alloc (Nat.le_refl _) _).block _ hl6]; exact HB6.out)); have y7 : w7.cell? ⟨w4.heap.size, 0, none⟩ = some (.int .i64 (f.kind : Nat)) := (by have := HB7.out; simp [World.cell?, this]); obtain ⟨z0, z1, z2, z3, zf⟩ := S7.out.dzf; clear o7 g7 y0 y1 y2 y3 y4 y5 y6 tok1)
        go_roundw
        case rel => exact ⟨kk, m, lineOf s kk, acc ++ [(⟨f.kind, f.text, f.n, sm, j, lineOf s j, colOf s j⟩ : Tk)], rfl, S7.out, hm2, LX2.out, by simp; omega⟩
        case measure => rw [leftOf_at S7.out.sc.cur, leftOf_at S.out.sc.cur]; have := S7.out.sc.cur.le; omega
    · have d1 : ((f.err : Int) != 0) = true := by simp; omega
      have O4 := Lib.hid (S3.out.only.trans o4)
      have hdz : w4.heap[w.heap.size]? = some (.cells #[.int .i64 0, .int .i64 0, .int .i64 0, .int .i64 0] 30) := (o4.block _ (by omega) (heap_lt S3.out.dz)).trans S3.out.dz
      have z0 : w4.cell? ⟨w.heap.size, 0, none⟩ = some (.int .i64 0) := by simp [World.cell?, hdz]
      have z1 : w4.cell? ⟨w.heap.size, 1, none⟩ = some (.int .i64 0) := by simp [World.cell?, hdz]
      have z2 : w4.cell? ⟨w.heap.size, 2, none⟩ = some (.int .i64 0) := by simp [World.cell?, hdz]
      have z3 : w4.cell? ⟨w.heap.size, 3, none⟩ = some (.int .i64 0) := by simp [World.cell?, hdz]
      have zf : ∀ o, w4.frozen? ⟨w.heap.size, o, none⟩ = false := fun o => by simp [World.frozen?, hdz]
      have hzl : w.heap.size < w4.heap.size := heap_lt hdz
      obtain rfl : R = ⟨f.err, j, []⟩ := by rw [← LX.out, lexN_err HF.out he, HJ.out]
      clear o4 c4 S3 hdz LX
      go_wp2_with fail
      go_region
      go_wp2_with fail
      exact bodyPost_ret (v := .tuple #[.slice none 0 0, diagV s ⟨f.err, j, []⟩]) (by simp [results, Tryz.results43, go_sem, diagV, z0, z1, z2, z3, hzl]) rfl ⟨_, rfl, OwnT.nil _ _, (((((O4.out.new (Nat.le_refl _) _).new (Nat.le_refl _) _).new (Nat.le_refl _) _).new (Nat.le_refl _) _).alloc _).drew⟩
/-- What lexpas.All leaves. -/
def LexPost (s : ByteArray) (w : World) (e : Ending) (w' : World) : Prop := ∃ v, e = .returned (.tuple #[v, diagV s (lexAll s)]) ∧ OwnT w.heap.size w' v (lexAll s).toks ∧ Below w.heap.size w w'
theorem toks_any (p c : Nat) (s : ByteArray) (w : World) (h : ScAt w p c s 0) :
    Calls Tryz.prog 43 #[.pointer (some ⟨p, 0, none⟩), .func (.func 44) #[.agg #[.pointer (some ⟨p, 0, none⟩)]] #[]] w (ToksPost c s (lexAll s) w) := by
  unfold lexAll
  split
  · rename_i hl; exact tokens_long p c s _ w h hl
  · rename_i hl; exact tokens_any p c s w h (by omega)
set_option maxHeartbeats 1000000 in
theorem lex_any (s : ByteArray) (w : World) : Calls Tryz.prog 20 #[.string s] w (LexPost s w) := by
  unfold LexPost diagV
  generalize hR : lexAll s = R
  have HR := Lib.hid hR
  clear hR
  go_enter Tryz.func20, Tryz.ntmps20
  go_wp2_with fail
  have hd0 := heap_new w (.cells #[.int .i64 0, .int .i64 0, .int .i64 0, .int .i64 0] 30)
  have B0 := Lib.hid (show Below w.heap.size w (w.alloc (.cells #[.int .i64 0, .int .i64 0, .int .i64 0, .int .i64 0] 30)) from (Below.refl _ _).alloc (Nat.le_refl _) _)
  generalize w.alloc (.cells #[.int .i64 0, .int .i64 0, .int .i64 0, .int .i64 0] 30) = w0 at hd0 B0 ⊢
  have hlt0 := heap_lt hd0
  have HD0 := Lib.hid hd0
  clear hd0
  refine (newSc s w0).mono ?_
  rintro e w1 ⟨rfl, c1, b1⟩
  have hd1 : w1.heap[w.heap.size]? = some (.cells #[.int .i64 0, .int .i64 0, .int .i64 0, .int .i64 0] 30) := (b1.block _ hlt0).trans HD0.out
  have C1 := Lib.hid c1
  have B1 := Lib.hid (B0.out.trans (b1.mono B0.out.size))
  have HD1 := Lib.hid hd1
  have hz0 := B0.out.size
  have hlt1 := heap_lt hd1
  clear c1 b1 hd1 HD0 B0
  have hcl := C1.out.cur.lt
  have hpl := C1.out.lt
  generalize w0.heap.size = n at C1 hcl hpl hz0 hlt0 ⊢
  go_wp2_with fail
  have S2 := Lib.hid (C1.out.alloc (.cells #[.pointer (some ⟨n + 1, 0, none⟩)] 83))
  have B2 := Lib.hid (B1.out.alloc B1.out.size (.cells #[.pointer (some ⟨n + 1, 0, none⟩)] 83))
  have HD2 := Lib.hid (show (w1.alloc (.cells #[.pointer (some ⟨n + 1, 0, none⟩)] 83)).heap[w.heap.size]? = some (.cells #[.int .i64 0, .int .i64 0, .int .i64 0, .int .i64 0] 30) by rw [((Below.refl _ w1).alloc (Nat.le_refl _) _).block _ hlt1]; exact HD1.out)
  refine (toks_any (n + 1) n s _ S2.out).mono ?_
  generalize w1.alloc (.cells #[.pointer (some ⟨n + 1, 0, none⟩)] 83) = w2 at S2 B2 HD2
  rw [HR.out]
  unfold ToksPost diagV
  rintro e w3 ⟨v, rfl, o3, on3⟩
  have hd3 : w3.heap[w.heap.size]? = some (.cells #[.int .i64 0, .int .i64 0, .int .i64 0, .int .i64 0] 30) := (on3.block _ (by omega) (heap_lt HD2.out)).trans HD2.out
  have z0 : w3.cell? ⟨w.heap.size, 0, none⟩ = some (.int .i64 0) := by simp [World.cell?, hd3]
  have z1 : w3.cell? ⟨w.heap.size, 1, none⟩ = some (.int .i64 0) := by simp [World.cell?, hd3]
  have z2 : w3.cell? ⟨w.heap.size, 2, none⟩ = some (.int .i64 0) := by simp [World.cell?, hd3]
  have z3 : w3.cell? ⟨w.heap.size, 3, none⟩ = some (.int .i64 0) := by simp [World.cell?, hd3]
  have zf : ∀ o, w3.frozen? ⟨w.heap.size, o, none⟩ = false := fun o => by simp [World.frozen?, hd3]
  have O3 := Lib.hid o3
  have B3 := Lib.hid (B2.out.trans (on3.below (B := w.heap.size) (by omega) B2.out.size))
  have hw2 : w.heap.size < w2.heap.size := heap_lt HD2.out
  clear o3 on3 hd3
  go_wp2_with fail
  refine bodyPost_ret (v := .tuple #[v, .agg #[.int .i64 (R.code : Nat), .int .i64 (R.pos : Nat), .int .i64 (lineOf s R.pos : Nat), .int .i64 (colOf s R.pos : Nat)]]) (by simp [results, Tryz.results20, go_sem, z0, z1, z2, z3]) rfl ⟨v, rfl, ?_, (((B3.out.setCell (Nat.le_refl _) _).setCell (Nat.le_refl _) _).setCell (Nat.le_refl _) _).setCell (Nat.le_refl _) _⟩
  refine OwnT.kept (O3.out.mono (by omega)) fun b hb => ?_
  have hb1 := (O3.out.lt b hb).1
  rw [Below.heap_setCell _ _ _ _ (by simp; omega), Below.heap_setCell _ _ _ _ (by simp; omega), Below.heap_setCell _ _ _ _ (by simp; omega), Below.heap_setCell _ _ _ _ (by simp; omega)]
end Go.Proofs.YtpcldpnaljheoaaGreatDoor.X.P
end
section
namespace Go.Proofs.YtpcldpnaljheoaaGreatDoor
open Go.RowKit Go.Deep Go.Sort

def tokOf (t : X.P.Tk) : Tok := ⟨t.kind, ⟨t.text.toArray⟩, t.n, t.same, t.pos, t.line, t.col⟩
def tksOf (s : ByteArray) : List Tok := (X.P.lexAll s).toks.map tokOf
theorem tok_n (c : UInt8) (r : List UInt8) (h : (X.P.tokL (c :: r)).err = 0) : (X.P.tokL (c :: r)).n ≤ 9223372036854775807 := by
  rw [X.P.tokL_cons] at h ⊢
  split
  · rename_i h1
    have hc : c = 123 := by simpa using h1
    subst hc
    unfold X.P.noteL
    split <;> exact Nat.zero_le _
  · rename_i h1
    rw [if_neg h1] at h
    split
    · rename_i h2
      rw [if_pos h2] at h
      unfold X.P.intL at h ⊢
      split
      · exact Nat.zero_le _
      · rename_i h3
        unfold X.P.maxInt at h3
        exact Nat.le_of_not_lt h3
    · rename_i h2
      split
      · unfold X.P.nameL
        split <;> exact Nat.zero_le _
      · split
        · unfold X.P.quoteL
          split
          · decide
          · split
            · exact Nat.le_trans (Nat.le_of_lt (UInt8.toNat_lt _)) (by decide)
            · exact Nat.zero_le _
        · split
          · unfold X.P.hashL
            split
            · exact Nat.zero_le _
            · rename_i h6
              have : ¬ 255 < X.valL (r.takeWhile X.P.isDig) := fun g => h6 (by simp [g])
              show X.valL _ ≤ _
              omega
          · unfold X.P.signL
            split <;> exact Nat.zero_le _
theorem fd_all (s : ByteArray) (k : Nat) (h : k < s.size) (he : (X.P.fdAt s k).err = 0) : 1 ≤ (X.P.fdAt s k).used ∧ k + (X.P.fdAt s k).used ≤ s.size ∧ 1 ≤ (X.P.fdAt s k).kind ∧ (X.P.fdAt s k).kind ≤ 6 ∧ (X.P.fdAt s k).text.length ≤ s.size ∧ (X.P.fdAt s k).n ≤ 9223372036854775807 := by
  obtain ⟨c, r, hc, hl⟩ := X.P.drop_cons h
  unfold X.P.fdAt at he ⊢
  rw [hc] at he ⊢
  have h1 := X.P.tok_use c r he
  have h2 := tok_n c r he
  omega
/-- What tokens are, but for the last one. -/
structure TkOk (N : Nat) (t : X.P.Tk) : Prop where
  k1 : 1 ≤ t.kind
  k6 : t.kind ≤ 6
  tx : t.text.length ≤ N
  n : t.n ≤ 9223372036854775807
theorem lexN_ok (s : ByteArray) : ∀ (m k : Nat) (last : Int) (acc : List X.P.Tk), k ≤ s.size → s.size - k < m → (X.P.lexN s m k last acc).code = 0 →
    ∃ l t, (X.P.lexN s m k last acc).toks = acc ++ (l ++ [t]) ∧ t.kind = 0 ∧ t.text = [] ∧ t.n = 0 ∧ (∀ u ∈ l, TkOk s.size u) ∧ l.length ≤ s.size - k
  | 0, _, _, _, _, h, _ => absurd h (Nat.not_lt_zero _)
  | m + 1, k, last, acc, hk, hm, hc => by
    have hb := X.P.blEnd_bd s k hk
    rw [X.P.lexN_succ] at hc ⊢
    by_cases he : (X.P.fdAt s (X.P.blEnd s k)).err ≠ 0
    · rw [if_pos he] at hc
      exact absurd hc he
    · rw [if_neg he] at hc ⊢
      have he0 : (X.P.fdAt s (X.P.blEnd s k)).err = 0 := by omega
      by_cases hz : (X.P.fdAt s (X.P.blEnd s k)).kind = 0
      · rw [if_pos hz]
        have hend : ¬ X.P.blEnd s k < s.size := fun g => by have := fd_all s _ g he0; omega
        have hfd := X.P.fd_end s _ hend
        exact ⟨[], _, rfl, hz, by show (X.P.fdAt s _).text = []; rw [hfd]; rfl, by show (X.P.fdAt s _).n = 0; rw [hfd]; rfl, by simp, Nat.zero_le _⟩
      · rw [if_neg hz] at hc ⊢
        have hlt : X.P.blEnd s k < s.size := by
          rcases Nat.lt_or_ge (X.P.blEnd s k) s.size with g | g
          · exact g
          · rw [X.P.fd_end s _ (by omega)] at hz
            exact absurd rfl hz
        obtain ⟨u1, u2, u3, u4, u5, u6⟩ := fd_all s _ hlt he0
        obtain ⟨l, t, e1, e2, e3, e4, e5, e6⟩ := lexN_ok s m _ _ _ u2 (by omega) hc
        refine ⟨_ :: l, t, by rw [e1, List.append_assoc]; rfl, e2, e3, e4, fun u hu => ?_, by rw [List.length_cons]; omega⟩
        rcases List.mem_cons.1 hu with rfl | hu
        · exact ⟨u3, u4, u5, u6⟩
        · exact e5 u hu
theorem lex_ok {s : ByteArray} (h : (X.P.lexAll s).code = 0) : ∃ l t, (X.P.lexAll s).toks = l ++ [t] ∧ t.kind = 0 ∧ t.text = [] ∧ t.n = 0 ∧ (∀ u ∈ l, TkOk s.size u) ∧ l.length ≤ s.size ∧ s.size ≤ 65536 := by
  unfold X.P.lexAll at h ⊢
  by_cases hs : 65536 < s.size
  · rw [if_pos hs] at h; cases h
  · rw [if_neg hs] at h ⊢
    obtain ⟨l, t, h1, h2, h3, h4, h5, h6⟩ := lexN_ok s (s.size + 1) 0 (-1) [] (Nat.zero_le _) (by omega) h
    exact ⟨l, t, h1, h2, h3, h4, h5, by omega, by omega⟩
theorem tks_ok {s : ByteArray} (h : (X.P.lexAll s).code = 0) : TsOk (tksOf s) := by
  obtain ⟨l, t, e, ht, hx, hn, hl, hlen, hs⟩ := lex_ok h
  unfold tksOf
  rw [e]
  refine ⟨by simp, by simp; omega, fun u hu => ?_, fun u hu => ?_⟩
  · obtain ⟨v, hv, rfl⟩ := List.mem_map.1 hu
    show v.text.toArray.size ≤ 70000
    rw [List.size_toArray]
    rcases List.mem_append.1 hv with g | g
    · have := (hl v g).tx; omega
    · rw [List.mem_singleton.1 g, hx]; exact Nat.zero_le _
  · obtain ⟨v, hv, rfl⟩ := List.mem_map.1 hu
    show v.n ≤ _
    rcases List.mem_append.1 hv with g | g
    · exact (hl v g).n
    · rw [List.mem_singleton.1 g, hn]; exact Nat.zero_le _
theorem toks_at {base : Nat} {w : World} {v : Value} {s : ByteArray} (h : X.P.OwnT base w v (X.P.lexAll s).toks) (hc : (X.P.lexAll s).code = 0) :
    ∃ g cap, v = .slice (some ⟨g, 0, none⟩) (tksOf s).length cap ∧ base ≤ g ∧ ToksAt g (tksOf s) w := by
  rcases h.slice with ⟨_, e⟩ | ⟨g, cap, rfl, h1, h2, _, _, h3⟩
  · obtain ⟨l, t, e', _⟩ := lex_ok hc
    rw [e] at e'
    exact absurd e' (by simp)
  · refine ⟨g, cap, by unfold tksOf; rw [List.length_map], h1, h2, fun i t j u hi hj => ?_⟩
    unfold tksOf at hi
    rw [List.getElem?_map] at hi
    cases hx : (X.P.lexAll s).toks[i]? with
    | none => rw [hx] at hi; cases hi
    | some t0 =>
      rw [hx] at hi
      obtain rfl := Option.some.inj hi
      exact h3 i t0 hx j u hj
end Go.Proofs.YtpcldpnaljheoaaGreatDoor
end
section
namespace Go.Proofs.YtpcldpnaljheoaaGreatDoor
open Go.RowKit Go.Deep Go.Sort

set_option maxRecDepth 100000 in
set_option maxHeartbeats 2000000 in
theorem Parse_any {g cap : Nat} {ts : List Tok} {k : Nat} {w : World} (ht : ToksAt g ts w) (hok : TsOk ts) (hk : k ≤ ts.length) (hG : Gt w) :
    Calls Tryz.prog 21 #[.slice (some ⟨g, 0, none⟩) ts.length cap, .int .i64 (k : Nat)] w (ParPost ts k w) := by
  have Z1 := (Below.refl w.heap.size w).alloc (Nat.le_refl _) (.cells #[.int .i64 0, .int .i64 0, .string ⟨#[]⟩, .string ⟨#[]⟩, .slice none 0 0] 25)
  have Z2 := Z1.alloc Z1.size (.cells #[.int .i64 0, .int .i64 0, .int .i64 0, .int .i64 0] 30)
  have k1 := heap_new w (.cells #[.int .i64 0, .int .i64 0, .string ⟨#[]⟩, .string ⟨#[]⟩, .slice none 0 0] 25)
  have k2 := heap_new (w.alloc (.cells #[.int .i64 0, .int .i64 0, .string ⟨#[]⟩, .string ⟨#[]⟩, .slice none 0 0] 25)) (.cells #[.int .i64 0, .int .i64 0, .int .i64 0, .int .i64 0] 30)
  have e1 : (w.alloc (.cells #[.int .i64 0, .int .i64 0, .string ⟨#[]⟩, .string ⟨#[]⟩, .slice none 0 0] 25)).heap.size = w.heap.size + 1 := by simp
  have N2 := (Below.refl _ (w.alloc (.cells #[.int .i64 0, .int .i64 0, .string ⟨#[]⟩, .string ⟨#[]⟩, .slice none 0 0] 25))).alloc (Nat.le_refl _) (.cells #[.int .i64 0, .int .i64 0, .int .i64 0, .int .i64 0] 30)
  have e2 : ((w.alloc (.cells #[.int .i64 0, .int .i64 0, .string ⟨#[]⟩, .string ⟨#[]⟩, .slice none 0 0] 25)).alloc (.cells #[.int .i64 0, .int .i64 0, .int .i64 0, .int .i64 0] 30)).heap.size = w.heap.size + 2 := by simp
  rw [e1] at k2 N2
  have K1 := Lib.hid ((N2.block _ (by omega)).trans k1)
  have K2 := Lib.hid k2
  have HZ := Lib.hid Z2
  have HS := Lib.hid e2
  have HN := Lib.hid (parse_any (cap := cap) (k := k) (ht.kept Z2.size (Z2.block _ ht.lt)) hok hk (hG.below Z2))
  unfold ParPost at HN ⊢
  generalize parX ts k = X at HN ⊢
  generalize parD ts k = Dx at HN ⊢
  clear Z1 Z2 k1 k2 e1 e2 N2 ht hG hk
  go_enter Tryz.func21, Tryz.ntmps21
  go_wp2_with fail
  generalize (w.alloc (.cells #[.int .i64 0, .int .i64 0, .string ⟨#[]⟩, .string ⟨#[]⟩, .slice none 0 0] 25)).alloc (.cells #[.int .i64 0, .int .i64 0, .int .i64 0, .int .i64 0] 30) = W0 at K1 K2 HZ HS HN ⊢
  refine HN.out.mono ?_
  rintro e w1 ⟨b1, h1⟩
  have B1 := Lib.hid (HZ.out.trans (b1.mono HZ.out.size))
  have K11 := Lib.hid ((b1.block _ (heap_lt K1.out)).trans K1.out)
  have K12 := Lib.hid ((b1.block _ (heap_lt K2.out)).trans K2.out)
  have hz0 := HZ.out.size
  have g1 := box_cells K11.out
  have g2 := box_cells K12.out
  have f1 : ∀ o, w1.frozen? ⟨w.heap.size, o, none⟩ = false := fun o => by simp [World.frozen?, K11.out]
  have f2 : ∀ o, w1.frozen? ⟨w.heap.size + 1, o, none⟩ = false := fun o => by simp [World.frozen?, K12.out]
  have l1 := heap_lt K11.out
  have l2 := heap_lt K12.out
  clear b1 HN HZ K1 K2
  rcases h1 with ⟨h1, rfl⟩ | ⟨h1, op, n, nm, fd, a, len, c, rfl, h2, h3, h4⟩
  · have HC := Lib.hid h1
    clear h1
    unfold dgV noB
    go_wp2_with fail
    refine bodyPost_ret (v := .tuple #[exV 0 0 ⟨#[]⟩ ⟨#[]⟩ none 0 0, .int .i64 (k : Nat), dgV Dx]) (by simp [results, Tryz.results21, go_sem, g1, g2, dgV]) rfl ⟨?_, .inl ⟨HC.out, rfl⟩⟩
    repeat (refine Below.setCell ?_ (by dsimp only; omega) _)
    exact B1.out
  · have HC := Lib.hid h1
    have H2 := Lib.hid h2
    have H3 := Lib.hid h3
    have H4 := Lib.hid h4
    clear h1 h2 h3 h4
    unfold dgV
    go_wp2_with fail
    refine bodyPost_ret (v := .tuple #[exV op n nm fd a len c, .int .i64 (X.2.k : Nat), dgV ⟨0, 0, 0, 0⟩]) (by simp [results, Tryz.results21, go_sem, g1, g2, dgV]) rfl ⟨?_, .inr ⟨HC.out, op, n, nm, fd, a, len, c, rfl, ?_, H3.out, H4.out⟩⟩
    · repeat (refine Below.setCell ?_ (by dsimp only; omega) _)
      exact B1.out
    · refine AllAt.sub ?_ (mk_weak _ (P := fun b => b < W0.heap.size) (fun j (hj : j < w.heap.size) => by have := HS.out; omega))
      have hb0 : w.heap.size < W0.heap.size := by have := HS.out; omega
      have hb1 : w.heap.size + 1 < W0.heap.size := by have := HS.out; omega
      exact (((((((((H2.out.sub (mk_set (P := fun b => b < W0.heap.size) hb0 _ _)).sub (mk_set (P := fun b => b < W0.heap.size) hb0 _ _)).sub (mk_set (P := fun b => b < W0.heap.size) hb0 _ _)).sub (mk_set (P := fun b => b < W0.heap.size) hb0 _ _)).sub (mk_set (P := fun b => b < W0.heap.size) hb0 _ _)).sub (mk_set (P := fun b => b < W0.heap.size) hb1 _ _)).sub (mk_set (P := fun b => b < W0.heap.size) hb1 _ _)).sub (mk_set (P := fun b => b < W0.heap.size) hb1 _ _)).sub (mk_set (P := fun b => b < W0.heap.size) hb1 _ _))
end Go.Proofs.YtpcldpnaljheoaaGreatDoor
end
section
namespace Go.Proofs.YtpcldpnaljheoaaGreatDoor
open Go.RowKit Go.Deep Go.Sort

def lexD (s : ByteArray) : Dg := ⟨(X.P.lexAll s).code, (X.P.lexAll s).pos, X.lineOf s (X.P.lexAll s).pos, X.colOf s (X.P.lexAll s).pos⟩
def endS (s : ByteArray) : RS := needEndS (tksOf s) ⟨(parX (tksOf s) 0).2.k, 0, 0, 0, 0⟩
/-- What is told of a text. -/
def redD (s : ByteArray) : Dg := if (X.P.lexAll s).code ≠ 0 then lexD s else if (parD (tksOf s) 0).c ≠ 0 then parD (tksOf s) 0 else faultD (endS s)
def redX (s : ByteArray) : List D := (parX (tksOf s) 0).1
def ReadPost (s : ByteArray) (w : World) (e : Ending) (w' : World) : Prop :=
  Below w.heap.size w w' ∧ ((redD s).c ≠ 0 ∧ e = .returned (.tuple #[exV 0 0 noB noB none 0 0, dgV (redD s)]) ∨
    (redD s).c = 0 ∧ ∃ op n nm fd a len c, e = .returned (.tuple #[exV op n nm fd a len c, dgV ⟨0, 0, 0, 0⟩]) ∧ AllAt (Mk (fun b => b < w.heap.size) w') [.int .i64 op, .int .i64 n, .string nm, .string fd, .slice a len c] (redX s) ∧ ShE (redX s))
theorem endS_f (s : ByteArray) : (endS s).f ≠ 0 ∨ (endS s = ⟨(parX (tksOf s) 0).2.k, 0, 0, 0, 0⟩) := by
  unfold endS needEndS
  split
  · exact .inr rfl
  · exact .inl (refuse_ne _ _)
abbrev set4 (w2 : World) (b : Nat) (v0 v1 v2 v3 : Value) : World := (((w2.setCell ⟨b, 0, none⟩ v0).setCell ⟨b, 1, none⟩ v1).setCell ⟨b, 2, none⟩ v2).setCell ⟨b, 3, none⟩ v3
theorem set4_size (w2 : World) (b : Nat) (v0 v1 v2 v3 : Value) : (set4 w2 b v0 v1 v2 v3).heap.size = w2.heap.size := by simp [set4, World.setCell]
theorem after_set {w2 : World} (o : Obj) {b k : Nat} (hk : k ≠ b) (hl : k < w2.heap.size) (v0 v1 v2 v3 : Value) : ((set4 w2 b v0 v1 v2 v3).alloc o).heap[k]? = w2.heap[k]? :=
  (((Below.refl _ _).alloc (Nat.le_refl _) o).block k (by rw [set4_size]; exact hl)).trans (heap_set4 _ _ _ hk _ _ _ _)
theorem after_own {w2 : World} (o : Obj) {b : Nat} {x0 x1 x2 x3 : Value} {t : TypeId} {f : Nat × Nat} (h : w2.heap[b]? = some (.cells #[x0, x1, x2, x3] t f)) (v0 v1 v2 v3 : Value) : ((set4 w2 b v0 v1 v2 v3).alloc o).heap[b]? = some (.cells #[v0, v1, v2, v3] t f) :=
  (((Below.refl _ _).alloc (Nat.le_refl _) o).block b (by rw [set4_size]; exact heap_lt h)).trans (heap_setC (o := 3) (heap_setC (o := 2) (heap_setC (o := 1) (heap_setC (o := 0) h v0) v1) v2) v3)
theorem after_new (w2 : World) (o : Obj) (b : Nat) (v0 v1 v2 v3 : Value) : ((set4 w2 b v0 v1 v2 v3).alloc o).heap[w2.heap.size]? = some o := by
  have h := heap_new (set4 w2 b v0 v1 v2 v3) o
  rwa [set4_size] at h
theorem after_low {w w2 : World} {B : Nat} (hb : Below B w w2) (hB : B ≤ w2.heap.size) (o : Obj) {b : Nat} (h : B ≤ b) (v0 v1 v2 v3 : Value) : Below B w ((set4 w2 b v0 v1 v2 v3).alloc o) :=
  ((((hb.setCell (p := ⟨b, 0, none⟩) h v0).setCell (p := ⟨b, 1, none⟩) h v1).setCell (p := ⟨b, 2, none⟩) h v2).setCell (p := ⟨b, 3, none⟩) h v3).alloc (by rw [set4_size]; exact hB) o
set_option maxRecDepth 100000 in
set_option maxHeartbeats 4000000 in
theorem exRead_any (s : ByteArray) (w : World) (hG : Gt w) :
    Calls Tryz.prog 19 #[.string s, .func (.func 20) #[] #[], .func (.func 21) #[] #[]] w (ReadPost s w) := by
  unfold ReadPost
  generalize hRX : redX s = RX
  have HRX := Lib.hid (show (parX (tksOf s) 0).1 = RX from hRX)
  generalize hRD : redD s = RD
  have HRD := Lib.hid hRD
  have Z1 := (Below.refl w.heap.size w).alloc (Nat.le_refl _) (.cells #[.int .i64 0, .int .i64 0, .string ⟨#[]⟩, .string ⟨#[]⟩, .slice none 0 0] 25)
  have Z2 := Z1.alloc Z1.size (.cells #[.int .i64 0, .int .i64 0, .int .i64 0, .int .i64 0] 30)
  have k1 := heap_new w (.cells #[.int .i64 0, .int .i64 0, .string ⟨#[]⟩, .string ⟨#[]⟩, .slice none 0 0] 25)
  have k2 := heap_new (w.alloc (.cells #[.int .i64 0, .int .i64 0, .string ⟨#[]⟩, .string ⟨#[]⟩, .slice none 0 0] 25)) (.cells #[.int .i64 0, .int .i64 0, .int .i64 0, .int .i64 0] 30)
  have e1 : (w.alloc (.cells #[.int .i64 0, .int .i64 0, .string ⟨#[]⟩, .string ⟨#[]⟩, .slice none 0 0] 25)).heap.size = w.heap.size + 1 := by simp
  have N2 := (Below.refl _ (w.alloc (.cells #[.int .i64 0, .int .i64 0, .string ⟨#[]⟩, .string ⟨#[]⟩, .slice none 0 0] 25))).alloc (Nat.le_refl _) (.cells #[.int .i64 0, .int .i64 0, .int .i64 0, .int .i64 0] 30)
  have e2 : ((w.alloc (.cells #[.int .i64 0, .int .i64 0, .string ⟨#[]⟩, .string ⟨#[]⟩, .slice none 0 0] 25)).alloc (.cells #[.int .i64 0, .int .i64 0, .int .i64 0, .int .i64 0] 30)).heap.size = w.heap.size + 2 := by simp
  rw [e1] at k2 N2
  have K1 := Lib.hid ((N2.block _ (by omega)).trans k1)
  have K2 := Lib.hid k2
  have HZ := Lib.hid Z2
  have HS := Lib.hid e2
  have HG := Lib.hid hG
  clear Z1 Z2 k1 k2 e1 e2 N2 hG hRD hRX
  go_enter Tryz.func19, Tryz.ntmps19
  go_wp2_with fail
  generalize (w.alloc (.cells #[.int .i64 0, .int .i64 0, .string ⟨#[]⟩, .string ⟨#[]⟩, .slice none 0 0] 25)).alloc (.cells #[.int .i64 0, .int .i64 0, .int .i64 0, .int .i64 0] 30) = W0 at K1 K2 HZ HS ⊢
  refine (X.P.lex_any s W0).mono ?_
  rintro e w1 ⟨v, rfl, o1, b1⟩
  have hds : X.P.diagV s (X.P.lexAll s) = .agg #[.int .i64 ((lexD s).c : Nat), .int .i64 ((lexD s).p : Nat), .int .i64 ((lexD s).l : Nat), .int .i64 ((lexD s).k : Nat)] := rfl
  rw [hds]
  have hcode : (X.P.lexAll s).code = (lexD s).c := rfl
  have hRD0 : redD s = if (lexD s).c ≠ 0 then lexD s else if (parD (tksOf s) 0).c ≠ 0 then parD (tksOf s) 0 else faultD (endS s) := rfl
  have HR0 := Lib.hid (HRD.out.symm.trans hRD0)
  have n1 := (Below.refl w1.heap.size w1).alloc (Nat.le_refl _) (.cells #[.int .i64 ((lexD s).c : Nat), .int .i64 ((lexD s).p : Nat), .int .i64 ((lexD s).l : Nat), .int .i64 ((lexD s).k : Nat)] 30)
  have OT := Lib.hid o1
  have B1 := Lib.hid (HZ.out.trans (b1.mono HZ.out.size))
  have B2 := Lib.hid (B1.out.trans (n1.mono B1.out.size))
  have K21 := Lib.hid ((n1.block _ (Nat.lt_of_lt_of_le (heap_lt K1.out) b1.size)).trans ((b1.block _ (heap_lt K1.out)).trans K1.out))
  have K22 := Lib.hid ((n1.block _ (Nat.lt_of_lt_of_le (heap_lt K2.out) b1.size)).trans ((b1.block _ (heap_lt K2.out)).trans K2.out))
  have K23 := Lib.hid (heap_new w1 (.cells #[.int .i64 ((lexD s).c : Nat), .int .i64 ((lexD s).p : Nat), .int .i64 ((lexD s).l : Nat), .int .i64 ((lexD s).k : Nat)] 30))
  have hz12 := Lib.hid (show (w1.alloc (.cells #[.int .i64 ((lexD s).c : Nat), .int .i64 ((lexD s).p : Nat), .int .i64 ((lexD s).l : Nat), .int .i64 ((lexD s).k : Nat)] 30)).heap.size = w1.heap.size + 1 by simp)
  have l01 : w.heap.size + 1 < w1.heap.size := by have := b1.size; have := HS.out; omega
  have hg0 : W0.heap.size ≤ w1.heap.size := b1.size
  have HCD := Lib.hid hcode
  clear hds hRD0 n1 o1 b1 HRD K1 K2 HZ hcode
  generalize lexD s = LD at *
  by_cases hlc : LD.c = 0
  · have d1 : ((LD.c : Int) != 0) = false := by simp [hlc]
    have hcc : (X.P.lexAll s).code = 0 := HCD.out.trans hlc
    obtain ⟨g, cap, rfl, hgb, tk1⟩ := toks_at OT.out hcc
    have hg1 := tk1.lt
    have n1 := (Below.refl w1.heap.size w1).alloc (Nat.le_refl _) (.cells #[.int .i64 (LD.c : Nat), .int .i64 (LD.p : Nat), .int .i64 (LD.l : Nat), .int .i64 (LD.k : Nat)] 30)
    have tk := tk1.kept n1.size (n1.block _ tk1.lt)
    have hok := tks_ok hcc
    have HOK := Lib.hid hok
    have TK := Lib.hid tk
    have HR1 := Lib.hid (HR0.out.trans (if_neg (fun h => h hlc)))
    have HP : Hid (Calls Tryz.prog 21 #[.slice (some ⟨g, 0, none⟩) (tksOf s).length cap, .int .i64 0] _ (ParPost (tksOf s) 0 _)) := Lib.hid (Parse_any (cap := cap) (k := 0) tk hok (Nat.zero_le _) (HG.out.below B2.out))
    have HEN := Lib.hid (show needEndS (tksOf s) ⟨(parX (tksOf s) 0).2.k, 0, 0, 0, 0⟩ = endS s from rfl)
    have HEF := Lib.hid (endS_f s)
    unfold ParPost at HP
    generalize parX (tksOf s) 0 = X at HP HEN HEF HRX
    generalize parD (tksOf s) 0 = PD at HP HR1
    generalize endS s = ES at HR1 HEN HEF
    have hl9 : w1.heap.size < (w1.alloc (.cells #[.int .i64 (LD.c : Nat), .int .i64 (LD.p : Nat), .int .i64 (LD.l : Nat), .int .i64 (LD.k : Nat)] 30)).heap.size := by simp
    clear HR0 HCD OT tk tk1 n1 hok hcc hlc
    generalize tksOf s = ts at *
    go_wp2_with fail
    generalize w1.alloc (.cells #[.int .i64 (LD.c : Nat), .int .i64 (LD.p : Nat), .int .i64 (LD.l : Nat), .int .i64 (LD.k : Nat)] 30) = W2 at B2 K21 K22 K23 hz12 HP TK hl9 ⊢
    refine HP.out.mono ?_
    rintro e w2 ⟨b2, h2⟩
    have B3 := Lib.hid (B2.out.trans (b2.mono B2.out.size))
    have K31 := Lib.hid ((b2.block _ (heap_lt K21.out)).trans K21.out)
    have K32 := Lib.hid ((b2.block _ (heap_lt K22.out)).trans K22.out)
    have K33 := Lib.hid ((b2.block _ (heap_lt K23.out)).trans K23.out)
    have TK3 := Lib.hid (TK.out.kept b2.size (b2.block _ TK.out.lt))
    have hz2 : W2.heap.size ≤ w2.heap.size := b2.size
    have hz12' := hz12.out
    have hgW : g < W2.heap.size := TK.out.lt
    have q9 := box_cells K33.out
    have fz9 : ∀ o, w2.frozen? ⟨w1.heap.size, o, none⟩ = false := fun o => by simp [World.frozen?, K33.out]
    clear b2 K21 K22 K23 TK HP HG
    have l9 : w1.heap.size < w2.heap.size := by omega
    rcases h2 with ⟨h1, rfl⟩ | ⟨h1, op, n, nm, fd, a, len, c, rfl, h2, h3, h4⟩
    · have HE := Lib.hid (HR1.out.trans (if_pos h1))
      have HC := Lib.hid h1
      have d2 : ((PD.c : Int) != 0) = true := by simp [h1]
      have B4 := Lib.hid (after_low B3.out (by omega) (.cells #[.int .i64 0, .int .i64 0, .string ⟨#[]⟩, .string ⟨#[]⟩, .slice none 0 0] 25) (b := w1.heap.size) (by omega) (.int .i64 (PD.c : Nat)) (.int .i64 (PD.p : Nat)) (.int .i64 (PD.l : Nat)) (.int .i64 (PD.k : Nat)))
      have K41 := Lib.hid ((after_set (.cells #[.int .i64 0, .int .i64 0, .string ⟨#[]⟩, .string ⟨#[]⟩, .slice none 0 0] 25) (b := w1.heap.size) (k := w.heap.size) (by omega) (heap_lt K31.out) (.int .i64 (PD.c : Nat)) (.int .i64 (PD.p : Nat)) (.int .i64 (PD.l : Nat)) (.int .i64 (PD.k : Nat))).trans K31.out)
      have K42 := Lib.hid ((after_set (.cells #[.int .i64 0, .int .i64 0, .string ⟨#[]⟩, .string ⟨#[]⟩, .slice none 0 0] 25) (b := w1.heap.size) (k := w.heap.size + 1) (by omega) (heap_lt K32.out) (.int .i64 (PD.c : Nat)) (.int .i64 (PD.p : Nat)) (.int .i64 (PD.l : Nat)) (.int .i64 (PD.k : Nat))).trans K32.out)
      have K43 := Lib.hid (after_own (.cells #[.int .i64 0, .int .i64 0, .string ⟨#[]⟩, .string ⟨#[]⟩, .slice none 0 0] 25) K33.out (.int .i64 (PD.c : Nat)) (.int .i64 (PD.p : Nat)) (.int .i64 (PD.l : Nat)) (.int .i64 (PD.k : Nat)))
      clear HR1 h1 HEN HEF TK3
      unfold dgV noB
      go_wp2_with fail
      generalize (((((w2.setCell ⟨w1.heap.size, 0, none⟩ (.int .i64 (PD.c : Nat))).setCell ⟨w1.heap.size, 1, none⟩ (.int .i64 (PD.p : Nat))).setCell ⟨w1.heap.size, 2, none⟩ (.int .i64 (PD.l : Nat))).setCell ⟨w1.heap.size, 3, none⟩ (.int .i64 (PD.k : Nat))).alloc (.cells #[.int .i64 0, .int .i64 0, .string ⟨#[]⟩, .string ⟨#[]⟩, .slice none 0 0] 25)) = W4 at B4 K41 K42 K43 ⊢
      have g1 := box_cells K41.out
      have g2 := box_cells K42.out
      have g3 := box_cells K43.out
      have f1 : ∀ o, W4.frozen? ⟨w.heap.size, o, none⟩ = false := fun o => by simp [World.frozen?, K41.out]
      have f2 : ∀ o, W4.frozen? ⟨w.heap.size + 1, o, none⟩ = false := fun o => by simp [World.frozen?, K42.out]
      have l1 := heap_lt K41.out
      have l2 := heap_lt K42.out
      have l3 := heap_lt K43.out
      clear q9 fz9
      go_region
      go_wp2_with fail
      refine bodyPost_ret (v := .tuple #[exV 0 0 ⟨#[]⟩ ⟨#[]⟩ none 0 0, dgV PD]) (by simp [results, Tryz.results19, go_sem, g1, g2, dgV]) rfl ⟨?_, .inl ⟨by rw [HE.out]; exact HC.out, by rw [HE.out]; rfl⟩⟩
      refine Below.drewR ?_
      repeat (refine Below.setCell ?_ (by dsimp only; omega) _)
      exact B4.out
    · have HE := Lib.hid (HR1.out.trans (if_neg (fun h => h h1)))
      have HC := Lib.hid h1
      have H2 := Lib.hid h2
      have H3 := Lib.hid h3
      have B4 := Lib.hid (after_low B3.out (by omega) (.cells #[.int .i64 op, .int .i64 n, .string nm, .string fd, .slice a len c] 25) (b := w1.heap.size) (by omega) (.int .i64 0) (.int .i64 0) (.int .i64 0) (.int .i64 0))
      have K41 := Lib.hid ((after_set (.cells #[.int .i64 op, .int .i64 n, .string nm, .string fd, .slice a len c] 25) (b := w1.heap.size) (k := w.heap.size) (by omega) (heap_lt K31.out) (.int .i64 0) (.int .i64 0) (.int .i64 0) (.int .i64 0)).trans K31.out)
      have K42 := Lib.hid ((after_set (.cells #[.int .i64 op, .int .i64 n, .string nm, .string fd, .slice a len c] 25) (b := w1.heap.size) (k := w.heap.size + 1) (by omega) (heap_lt K32.out) (.int .i64 0) (.int .i64 0) (.int .i64 0) (.int .i64 0)).trans K32.out)
      have K43 := Lib.hid (after_own (.cells #[.int .i64 op, .int .i64 n, .string nm, .string fd, .slice a len c] 25) K33.out (.int .i64 0) (.int .i64 0) (.int .i64 0) (.int .i64 0))
      have K44 := Lib.hid (after_new w2 (.cells #[.int .i64 op, .int .i64 n, .string nm, .string fd, .slice a len c] 25) w1.heap.size (.int .i64 0) (.int .i64 0) (.int .i64 0) (.int .i64 0))
      have hs4 : ((set4 w2 w1.heap.size (.int .i64 0) (.int .i64 0) (.int .i64 0) (.int .i64 0)).alloc (.cells #[.int .i64 op, .int .i64 n, .string nm, .string fd, .slice a len c] 25)).heap.size = w2.heap.size + 1 := by
        simp [set4, World.setCell]
      have HS4 := Lib.hid hs4
      have HSB := Lib.hid (show ∀ b, b ≠ w1.heap.size → b < w2.heap.size → ((set4 w2 w1.heap.size (.int .i64 0) (.int .i64 0) (.int .i64 0) (.int .i64 0)).alloc (.cells #[.int .i64 op, .int .i64 n, .string nm, .string fd, .slice a len c] 25)).heap[b]? = w2.heap[b]? from fun b h1 h2 => after_set (.cells #[.int .i64 op, .int .i64 n, .string nm, .string fd, .slice a len c] 25) h1 h2 _ _ _ _)
      have TK4 := Lib.hid (TK3.out.kept (w' := (set4 w2 w1.heap.size (.int .i64 0) (.int .i64 0) (.int .i64 0) (.int .i64 0)).alloc (.cells #[.int .i64 op, .int .i64 n, .string nm, .string fd, .slice a len c] 25)) (by omega) (HSB.out g (by omega) (by omega)))
      have HN := Lib.hid (newR_any (cap := cap) TK4.out HOK.out h4)
      clear HR1 h1 h2 h3 h4 TK3 hs4
      unfold dgV
      unfold set4 at B4 K41 K42 K43 K44 HS4 HSB TK4 HN
      go_wp2_with fail
      generalize (((((w2.setCell ⟨w1.heap.size, 0, none⟩ (.int .i64 0)).setCell ⟨w1.heap.size, 1, none⟩ (.int .i64 0)).setCell ⟨w1.heap.size, 2, none⟩ (.int .i64 0)).setCell ⟨w1.heap.size, 3, none⟩ (.int .i64 0)).alloc (.cells #[.int .i64 op, .int .i64 n, .string nm, .string fd, .slice a len c] 25)) = W4 at B4 K41 K42 K43 K44 HS4 HSB TK4 HN ⊢
      refine HN.out.mono ?_
      rintro e w5 ⟨rfl, r5, b5⟩
      have R5 := Lib.hid r5
      have B5 := Lib.hid (B4.out.trans (b5.mono B4.out.size))
      have K51 := Lib.hid ((b5.block _ (heap_lt K41.out)).trans K41.out)
      have K52 := Lib.hid ((b5.block _ (heap_lt K42.out)).trans K42.out)
      have K54 := Lib.hid ((b5.block _ (heap_lt K44.out)).trans K44.out)
      have HS5 := Lib.hid (show ∀ b, b < w2.heap.size → b ≠ w1.heap.size → w5.heap[b]? = w2.heap[b]? from fun b h1 h2 => (b5.block b (by have := HS4.out; omega)).trans (HSB.out b h2 h1))
      have hpz := HS4.out
      have hp5 : W4.heap.size ≤ w5.heap.size := b5.size
      rw [hpz] at R5 hp5 ⊢
      clear hpz
      clear r5 b5 HN B4 K41 K42 K43 K44 HS4 HSB TK4
      go_wp2_with fail
      refine (needEnd_any R5.out).mono ?_
      rintro e w6 ⟨rfl, d6⟩
      rw [HEN.out] at d6
      have R6 := Lib.hid d6.rd
      have B6 := Lib.hid (B5.out.trans (d6.onl.below (by omega) B5.out.size))
      have K61 := Lib.hid ((d6.onl.block _ (by omega) (heap_lt K51.out)).trans K51.out)
      have K62 := Lib.hid ((d6.onl.block _ (by omega) (heap_lt K52.out)).trans K52.out)
      have K64 := Lib.hid ((d6.onl.block _ (by omega) (heap_lt K54.out)).trans K54.out)
      have hz6 : w5.heap.size ≤ w6.heap.size := d6.onl.size
      have HS6 := Lib.hid (show ∀ b, b < w2.heap.size → b ≠ w1.heap.size → w6.heap[b]? = w2.heap[b]? from fun b h1 h2 => (d6.onl.block b (by omega) (by omega)).trans (HS5.out b h1 h2))
      clear d6 R5 B5 K51 K52 K54 HS5 HEN
      go_wp2_with fail
      refine (failed_any R6.out).mono ?_
      rintro e w7 ⟨rfl, rfl⟩
      have g1 := box_cells K61.out
      have g2 := box_cells K62.out
      have g4 := box_cells K64.out
      have f1 : ∀ o, w7.frozen? ⟨w.heap.size, o, none⟩ = false := fun o => by simp [World.frozen?, K61.out]
      have f2 : ∀ o, w7.frozen? ⟨w.heap.size + 1, o, none⟩ = false := fun o => by simp [World.frozen?, K62.out]
      have l1 := heap_lt K61.out
      have l2 := heap_lt K62.out
      by_cases hef : ES.f = 0
      · have d3 : ((ES.f : Int) != 0) = false := by simp [hef]
        have hes : ES = ⟨X.2.k, 0, 0, 0, 0⟩ := by
          rcases HEF.out with h | h
          · exact absurd hef h
          · exact h
        have HE2 := Lib.hid (show RD.c = 0 by rw [HE.out, hes]; rfl)
        clear hef hes HEF HE R6
        go_wp2_with fail
        refine bodyPost_ret (v := .tuple #[exV op n nm fd a len c, dgV ⟨0, 0, 0, 0⟩]) (by simp [results, Tryz.results19, go_sem, g1, g2, dgV]) rfl ⟨?_, .inr ⟨HE2.out, op, n, nm, fd, a, len, c, rfl, ?_, HRX.out ▸ H3.out⟩⟩
        · repeat (refine Below.setCell ?_ (by dsimp only; omega) _)
          exact B6.out
        · rw [← HRX.out]
          refine H2.out.sub (sub_of_blocks (by simp [World.setCell]; omega) _ _ fun b hb hn => ⟨fun (h : b < w.heap.size) => hn (by omega), ?_⟩)
          have hn' : ¬ b < W2.heap.size := hn
          rw [Below.heap_setCell _ _ _ _ (fun e => by dsimp only at e; omega), Below.heap_setCell _ _ _ _ (fun e => by dsimp only at e; omega), Below.heap_setCell _ _ _ _ (fun e => by dsimp only at e; omega), Below.heap_setCell _ _ _ _ (fun e => by dsimp only at e; omega), Below.heap_setCell _ _ _ _ (fun e => by dsimp only at e; omega), Below.heap_setCell _ _ _ _ (fun e => by dsimp only at e; omega), Below.heap_setCell _ _ _ _ (fun e => by dsimp only at e; omega), Below.heap_setCell _ _ _ _ (fun e => by dsimp only at e; omega), Below.heap_setCell _ _ _ _ (fun e => by dsimp only at e; omega)]
          exact HS6.out b hb (by omega)
      · have d3 : ((ES.f : Int) != 0) = true := by simp [hef]
        have HE2 := Lib.hid (show RD.c ≠ 0 by rw [HE.out]; exact hef)
        have HFA := Lib.hid (fault_any R6.out)
        clear hef HEF
        unfold diagS at HFA
        go_wp2_with fail
        refine HFA.out.mono ?_
        rintro e w8 ⟨rfl, b8⟩
        have B8 := Lib.hid (B6.out.trans (b8.mono B6.out.size))
        have K81 := Lib.hid ((b8.block _ l1).trans K61.out)
        have K82 := Lib.hid ((b8.block _ l2).trans K62.out)
        have g81 := box_cells K81.out
        have g82 := box_cells K82.out
        have f81 : ∀ o, w8.frozen? ⟨w.heap.size, o, none⟩ = false := fun o => by simp [World.frozen?, K81.out]
        have f82 : ∀ o, w8.frozen? ⟨w.heap.size + 1, o, none⟩ = false := fun o => by simp [World.frozen?, K82.out]
        have l81 := heap_lt K81.out
        have l82 := heap_lt K82.out
        clear b8 g1 g2 f1 f2 l1 l2
        go_wp2_with fail
        refine bodyPost_ret (v := .tuple #[exV 0 0 ⟨#[]⟩ ⟨#[]⟩ none 0 0, dgV (faultD ES)]) (by simp [results, Tryz.results19, go_sem, g81, g82, dgV, faultD]) rfl ⟨?_, .inl ⟨HE2.out, by rw [HE.out]; rfl⟩⟩
        repeat (refine Below.setCell ?_ (by dsimp only; omega) _)
        exact B8.out
  · have d1 : ((LD.c : Int) != 0) = true := by simp [hlc]
    have HE := Lib.hid (HR0.out.trans (if_pos hlc))
    clear HR0 HCD OT
    go_wp2_with fail
    generalize w1.alloc (.cells #[.int .i64 (LD.c : Nat), .int .i64 (LD.p : Nat), .int .i64 (LD.l : Nat), .int .i64 (LD.k : Nat)] 30) = W2 at B2 K21 K22 K23 hz12 ⊢
    have g1 := box_cells K21.out
    have g2 := box_cells K22.out
    have g3 := box_cells K23.out
    have f1 : ∀ o, W2.frozen? ⟨w.heap.size, o, none⟩ = false := fun o => by simp [World.frozen?, K21.out]
    have f2 : ∀ o, W2.frozen? ⟨w.heap.size + 1, o, none⟩ = false := fun o => by simp [World.frozen?, K22.out]
    have l1 := heap_lt K21.out
    have l2 := heap_lt K22.out
    have l3 := heap_lt K23.out
    go_region
    go_wp2_with fail
    refine bodyPost_ret (v := .tuple #[exV 0 0 ⟨#[]⟩ ⟨#[]⟩ none 0 0, dgV LD]) (by simp [results, Tryz.results19, go_sem, g1, g2, dgV]) rfl ⟨?_, .inl ⟨by rw [HE.out]; exact hlc, by rw [HE.out]; rfl⟩⟩
    refine Below.drewR ?_
    repeat (refine Below.setCell ?_ (by dsimp only; omega) _)
    exact B2.out
set_option maxRecDepth 100000 in
set_option maxHeartbeats 2000000 in
theorem Read_any (s : ByteArray) (w : World) (hG : Gt w) : Calls Tryz.prog 10 #[.string s] w (ReadPost s w) := by
  have Z1 := (Below.refl w.heap.size w).alloc (Nat.le_refl _) (.cells #[.int .i64 0, .int .i64 0, .string ⟨#[]⟩, .string ⟨#[]⟩, .slice none 0 0] 25)
  have Z2 := Z1.alloc Z1.size (.cells #[.int .i64 0, .int .i64 0, .int .i64 0, .int .i64 0] 30)
  have k1 := heap_new w (.cells #[.int .i64 0, .int .i64 0, .string ⟨#[]⟩, .string ⟨#[]⟩, .slice none 0 0] 25)
  have k2 := heap_new (w.alloc (.cells #[.int .i64 0, .int .i64 0, .string ⟨#[]⟩, .string ⟨#[]⟩, .slice none 0 0] 25)) (.cells #[.int .i64 0, .int .i64 0, .int .i64 0, .int .i64 0] 30)
  have e1 : (w.alloc (.cells #[.int .i64 0, .int .i64 0, .string ⟨#[]⟩, .string ⟨#[]⟩, .slice none 0 0] 25)).heap.size = w.heap.size + 1 := by simp
  have N2 := (Below.refl _ (w.alloc (.cells #[.int .i64 0, .int .i64 0, .string ⟨#[]⟩, .string ⟨#[]⟩, .slice none 0 0] 25))).alloc (Nat.le_refl _) (.cells #[.int .i64 0, .int .i64 0, .int .i64 0, .int .i64 0] 30)
  have e2 : ((w.alloc (.cells #[.int .i64 0, .int .i64 0, .string ⟨#[]⟩, .string ⟨#[]⟩, .slice none 0 0] 25)).alloc (.cells #[.int .i64 0, .int .i64 0, .int .i64 0, .int .i64 0] 30)).heap.size = w.heap.size + 2 := by simp
  rw [e1] at k2 N2
  have K1 := Lib.hid ((N2.block _ (by omega)).trans k1)
  have K2 := Lib.hid k2
  have HZ := Lib.hid Z2
  have HS := Lib.hid e2
  have HN := Lib.hid (exRead_any s _ (hG.below Z2))
  unfold ReadPost at HN ⊢
  generalize redX s = RX at HN ⊢
  generalize redD s = RD at HN ⊢
  clear Z1 Z2 k1 k2 e1 e2 N2 hG
  go_enter Tryz.func10, Tryz.ntmps10
  go_wp2_with fail
  generalize (w.alloc (.cells #[.int .i64 0, .int .i64 0, .string ⟨#[]⟩, .string ⟨#[]⟩, .slice none 0 0] 25)).alloc (.cells #[.int .i64 0, .int .i64 0, .int .i64 0, .int .i64 0] 30) = W0 at K1 K2 HZ HS HN ⊢
  refine HN.out.mono ?_
  rintro e w1 ⟨b1, h1⟩
  have B1 := Lib.hid (HZ.out.trans (b1.mono HZ.out.size))
  have K11 := Lib.hid ((b1.block _ (heap_lt K1.out)).trans K1.out)
  have K12 := Lib.hid ((b1.block _ (heap_lt K2.out)).trans K2.out)
  have hz0 := HZ.out.size
  have g1 := box_cells K11.out
  have g2 := box_cells K12.out
  have f1 : ∀ o, w1.frozen? ⟨w.heap.size, o, none⟩ = false := fun o => by simp [World.frozen?, K11.out]
  have f2 : ∀ o, w1.frozen? ⟨w.heap.size + 1, o, none⟩ = false := fun o => by simp [World.frozen?, K12.out]
  have l1 := heap_lt K11.out
  have l2 := heap_lt K12.out
  clear b1 HN HZ K1 K2
  rcases h1 with ⟨h1, rfl⟩ | ⟨h1, op, n, nm, fd, a, len, c, rfl, h2, h3⟩
  · have HC := Lib.hid h1
    clear h1
    unfold dgV noB
    go_wp2_with fail
    refine bodyPost_ret (v := .tuple #[exV 0 0 ⟨#[]⟩ ⟨#[]⟩ none 0 0, dgV RD]) (by simp [results, Tryz.results10, go_sem, g1, g2, dgV]) rfl ⟨?_, .inl ⟨HC.out, rfl⟩⟩
    repeat (refine Below.setCell ?_ (by dsimp only; omega) _)
    exact B1.out
  · have HC := Lib.hid h1
    have H2 := Lib.hid h2
    have H3 := Lib.hid h3
    clear h1 h2 h3
    unfold dgV
    go_wp2_with fail
    refine bodyPost_ret (v := .tuple #[exV op n nm fd a len c, dgV ⟨0, 0, 0, 0⟩]) (by simp [results, Tryz.results10, go_sem, g1, g2, dgV]) rfl ⟨?_, .inr ⟨HC.out, op, n, nm, fd, a, len, c, rfl, ?_, H3.out⟩⟩
    · repeat (refine Below.setCell ?_ (by dsimp only; omega) _)
      exact B1.out
    · refine AllAt.sub ?_ (mk_weak _ (P := fun b => b < W0.heap.size) (fun j (hj : j < w.heap.size) => by have := HS.out; omega))
      have hb0 : w.heap.size < W0.heap.size := by have := HS.out; omega
      have hb1 : w.heap.size + 1 < W0.heap.size := by have := HS.out; omega
      exact (((((((((H2.out.sub (mk_set (P := fun b => b < W0.heap.size) hb0 _ _)).sub (mk_set (P := fun b => b < W0.heap.size) hb0 _ _)).sub (mk_set (P := fun b => b < W0.heap.size) hb0 _ _)).sub (mk_set (P := fun b => b < W0.heap.size) hb0 _ _)).sub (mk_set (P := fun b => b < W0.heap.size) hb0 _ _)).sub (mk_set (P := fun b => b < W0.heap.size) hb1 _ _)).sub (mk_set (P := fun b => b < W0.heap.size) hb1 _ _)).sub (mk_set (P := fun b => b < W0.heap.size) hb1 _ _)).sub (mk_set (P := fun b => b < W0.heap.size) hb1 _ _))
end Go.Proofs.YtpcldpnaljheoaaGreatDoor
end
section
namespace Go.Proofs.YtpcldpnaljheoaaGreatDoor
open Go.RowKit Go.Deep

structure Sgn where
  t : ByteArray
  lv : Nat
  lf : Nat
  rt : Nat
def sgV (s : Sgn) : Value := .agg #[.string s.t, .int .i64 (s.lv : Nat), .int .i64 (s.lf : Nat), .int .i64 (s.rt : Nat)]
def tabS (k : Nat) : Sgn := if 9 ≤ k then ⟨(signsP[k]?).getD ⟨#[]⟩, 1, 2, 2⟩ else if 5 ≤ k then ⟨(signsP[k]?).getD ⟨#[]⟩, 2, 2, 3⟩ else ⟨(signsP[k]?).getD ⟨#[]⟩, 3, 3, 4⟩
def sgnP (op : Int) : Sgn := if op = 9 then ⟨⟨#[110, 111, 116, 32]⟩, 4, 0, 4⟩ else if op = 8 then ⟨⟨#[45]⟩, 2, 0, 3⟩ else if 10 ≤ op ∧ op ≤ 24 then tabS (op - 10).toNat else ⟨⟨#[]⟩, 4, 0, 0⟩
def SgPost (s : Sgn) (w : World) (e : Ending) (w' : World) : Prop := e = .returned (sgV s) ∧ Below w.heap.size w w'
set_option maxHeartbeats 1000000 in
theorem sgn_not (w : World) : Calls Tryz.prog 27 #[.int .i64 9] w (SgPost ⟨⟨#[110, 111, 116, 32]⟩, 4, 0, 4⟩ w) := by
  unfold SgPost sgV
  have Z := Lib.hid ((Below.refl w.heap.size w).alloc (Nat.le_refl _) (.cells #[.string ⟨#[110, 111, 116, 32]⟩, .int .i64 4, .int .i64 0, .int .i64 4] 103))
  have K := Lib.hid (heap_new w (.cells #[.string ⟨#[110, 111, 116, 32]⟩, .int .i64 4, .int .i64 0, .int .i64 4] 103))
  go_enter Tryz.func27, Tryz.ntmps27
  go_wp2_with fail
  exact bodyPost_ret (results_cell (i := 2) (b := w.heap.size) Tryz.results27 Tryz.isAgg103 Tryz.sizeOf103 rfl rfl K.out) rfl ⟨rfl, Z.out⟩
set_option maxHeartbeats 1000000 in
theorem sgn_neg (w : World) : Calls Tryz.prog 27 #[.int .i64 8] w (SgPost ⟨⟨#[45]⟩, 2, 0, 3⟩ w) := by
  unfold SgPost sgV
  have Z := Lib.hid ((Below.refl w.heap.size w).alloc (Nat.le_refl _) (.cells #[.string ⟨#[45]⟩, .int .i64 2, .int .i64 0, .int .i64 3] 103))
  have K := Lib.hid (heap_new w (.cells #[.string ⟨#[45]⟩, .int .i64 2, .int .i64 0, .int .i64 3] 103))
  go_enter Tryz.func27, Tryz.ntmps27
  go_wp2_with fail
  exact bodyPost_ret (results_cell (i := 2) (b := w.heap.size) Tryz.results27 Tryz.isAgg103 Tryz.sizeOf103 rfl rfl K.out) rfl ⟨rfl, Z.out⟩
set_option maxHeartbeats 1000000 in
theorem sgn_oth (op : Int) (h : op ≤ 7) (w : World) : Calls Tryz.prog 27 #[.int .i64 op] w (SgPost ⟨⟨#[]⟩, 4, 0, 0⟩ w) := by
  unfold SgPost sgV
  have Z := Lib.hid ((Below.refl w.heap.size w).alloc (Nat.le_refl _) (.cells #[.string ⟨#[]⟩, .int .i64 4, .int .i64 0, .int .i64 0] 103))
  have K := Lib.hid (heap_new w (.cells #[.string ⟨#[]⟩, .int .i64 4, .int .i64 0, .int .i64 0] 103))
  have d1 : (op == 9) = false := by simp; omega
  have d2 : (op == 8) = false := by simp; omega
  have d3 : decide (op ≥ 19) = false := by simp; omega
  have d4 : decide (op ≥ 15) = false := by simp; omega
  have d5 : decide (op ≥ 10) = false := by simp; omega
  have d3' : decide ((19 : Int) ≤ op) = false := by simp; omega
  have d4' : decide ((15 : Int) ≤ op) = false := by simp; omega
  have d5' : decide ((10 : Int) ≤ op) = false := by simp; omega
  clear h
  go_enter Tryz.func27, Tryz.ntmps27
  go_wp2_with fail
  exact bodyPost_ret (results_cell (i := 2) (b := w.heap.size) Tryz.results27 Tryz.isAgg103 Tryz.sizeOf103 rfl rfl K.out) rfl ⟨rfl, Z.out⟩
set_option maxHeartbeats 2000000 in
theorem sgn_tab {w : World} (hG : Gt w) {k : Nat} {x : ByteArray} (hx : signsP[k]? = some x) : Calls Tryz.prog 27 #[.int .i64 ((10 + k : Nat) : Int)] w (SgPost (tabS k) w) := by
  have hk : k < 15 := (List.getElem?_eq_some_iff.1 hx).1
  have hc := hG.sg k x hx
  have hs := hG.sz
  unfold SgPost sgV tabS
  rw [hx]
  dsimp only [Option.getD_some]
  clear hx hG
  have hlt : 0 < w.heap.size := by omega
  have hc2 : (w.alloc (.cells #[.string ⟨#[]⟩, .int .i64 0, .int .i64 0, .int .i64 0] 103)).cell? ⟨0, 10 + k, none⟩ = some (.string x) := (cell_eq (((Below.refl w.heap.size w).alloc (Nat.le_refl _) _).block _ hlt)).trans hc
  generalize hq : 10 + k = q at hc hc2 ⊢
  have d1 : ((q : Int) == 9) = false := by simp; omega
  have d2 : ((q : Int) == 8) = false := by simp; omega
  have i0 : (0 : Int) ≤ (q : Int) := by omega
  have i1 : (q : Int) < 25 := by omega
  by_cases h9 : 9 ≤ k
  · rw [if_pos h9]
    have d3 : decide ((q : Int) ≥ 19) = true := by simp; omega
    have d3' : decide ((19 : Int) ≤ (q : Int)) = true := by simp; omega
    have d4 : decide ((q : Int) ≤ 24) = true := by simp; omega
    have Z := Lib.hid ((Below.refl w.heap.size w).alloc (Nat.le_refl _) (.cells #[.string x, .int .i64 1, .int .i64 2, .int .i64 2] 103))
    have K := Lib.hid (heap_new w (.cells #[.string x, .int .i64 1, .int .i64 2, .int .i64 2] 103))
    clear hq h9 hk hs
    go_enter Tryz.func27, Tryz.ntmps27
    go_wp2_with fail
    exact bodyPost_ret (results_cell (i := 2) (b := w.heap.size) Tryz.results27 Tryz.isAgg103 Tryz.sizeOf103 rfl rfl K.out) rfl ⟨rfl, Z.out⟩
  · rw [if_neg h9]
    have d3 : decide ((q : Int) ≥ 19) = false := by simp; omega
    have d3' : decide ((19 : Int) ≤ (q : Int)) = false := by simp; omega
    by_cases h5 : 5 ≤ k
    · rw [if_pos h5]
      have d5 : decide ((q : Int) ≥ 15) = true := by simp; omega
      have d5' : decide ((15 : Int) ≤ (q : Int)) = true := by simp; omega
      have d4 : decide ((q : Int) ≤ 18) = true := by simp; omega
      have Z := Lib.hid ((Below.refl w.heap.size w).alloc (Nat.le_refl _) (.cells #[.string x, .int .i64 2, .int .i64 2, .int .i64 3] 103))
      have K := Lib.hid (heap_new w (.cells #[.string x, .int .i64 2, .int .i64 2, .int .i64 3] 103))
      clear hq h9 h5 hk hs
      go_enter Tryz.func27, Tryz.ntmps27
      go_wp2_with fail
      exact bodyPost_ret (results_cell (i := 2) (b := w.heap.size) Tryz.results27 Tryz.isAgg103 Tryz.sizeOf103 rfl rfl K.out) rfl ⟨rfl, Z.out⟩
    · rw [if_neg h5]
      have d5 : decide ((q : Int) ≥ 15) = false := by simp; omega
      have d5' : decide ((15 : Int) ≤ (q : Int)) = false := by simp; omega
      have d6 : decide ((q : Int) ≥ 10) = true := by simp; omega
      have d6' : decide ((10 : Int) ≤ (q : Int)) = true := by simp; omega
      have d4 : decide ((q : Int) ≤ 14) = true := by simp; omega
      have Z := Lib.hid ((Below.refl w.heap.size w).alloc (Nat.le_refl _) (.cells #[.string x, .int .i64 3, .int .i64 3, .int .i64 4] 103))
      have K := Lib.hid (heap_new w (.cells #[.string x, .int .i64 3, .int .i64 3, .int .i64 4] 103))
      clear hq h9 h5 hk hs
      go_enter Tryz.func27, Tryz.ntmps27
      go_wp2_with fail
      exact bodyPost_ret (results_cell (i := 2) (b := w.heap.size) Tryz.results27 Tryz.isAgg103 Tryz.sizeOf103 rfl rfl K.out) rfl ⟨rfl, Z.out⟩
theorem sgn_any {w : World} (hG : Gt w) {op : Int} (h : op ≤ 24) : Calls Tryz.prog 27 #[.int .i64 op] w (SgPost (sgnP op) w) := by
  unfold sgnP
  by_cases h9 : op = 9
  · subst h9; exact sgn_not w
  · rw [if_neg h9]
    by_cases h8 : op = 8
    · subst h8; exact sgn_neg w
    · rw [if_neg h8]
      by_cases ht : 10 ≤ op ∧ op ≤ 24
      · rw [if_pos ht]
        obtain ⟨k, hk⟩ : ∃ k : Nat, op = ((10 + k : Nat) : Int) := ⟨(op - 10).toNat, by omega⟩
        have hk15 : k < signsP.length := by show k < 15; omega
        have := sgn_tab hG (List.getElem?_eq_getElem hk15)
        rw [← hk] at this
        rwa [show (op - 10).toNat = k by omega]
      · rw [if_neg ht]
        exact sgn_oth op (by omega) w
end Go.Proofs.YtpcldpnaljheoaaGreatDoor
end
section
namespace Go.Proofs.YtpcldpnaljheoaaGreatDoor.S
open Go.RowKit

theorem heap_lt {w : World} {b : Nat} {o : Obj} (h : w.heap[b]? = some o) : b < w.heap.size := by
  rcases Nat.lt_or_ge b w.heap.size with g | g
  · exact g
  · rw [Array.getElem?_eq_none g] at h; cases h
theorem heap_new (w : World) (o : Obj) : (w.alloc o).heap[w.heap.size]? = some o := by
  show (w.heap.push o)[w.heap.size]? = _
  simp
theorem heap_set {w : World} {b o : Nat} {c : Array Value} {t : TypeId} {f : Nat × Nat} (h : w.heap[b]? = some (.cells c t f)) (v : Value) :
    (w.setCell ⟨b, o, none⟩ v).heap[b]? = some (.cells (c.setIfInBounds o v) t f) := by
  simp [World.setCell, Array.getElem?_modify, h]

/-- k is a block of the sink at q: its own, or its text's. -/
def Mine (w : World) (q k : Nat) : Prop := k = q ∨ ∃ v r d f, w.heap[q]? = some (.cells #[v, r, d, f] 146) ∧ v.ownBlock = some k
theorem Mine.congr {w w' : World} {q k : Nat} (e : w'.heap[q]? = w.heap[q]?) : Mine w' q k ↔ Mine w q k := by unfold Mine; rw [e]
/-- Of what was there only the sink at q has turned. -/
structure Did (q : Nat) (w w' : World) : Prop where
  os : w'.os = w.os
  tape : w'.tape = w.tape
  output : w'.output = w.output
  size : w.heap.size ≤ w'.heap.size
  block : ∀ k, k < w.heap.size → ¬ Mine w q k → w'.heap[k]? = w.heap[k]?
  mine : ∀ k, Mine w' q k → Mine w q k ∨ w.heap.size ≤ k
theorem Did.refl (q : Nat) (w : World) : Did q w w := ⟨rfl, rfl, rfl, Nat.le_refl _, fun _ _ _ => rfl, fun _ h => .inl h⟩
theorem Did.trans {q : Nat} {a b c : World} (h : Did q a b) (k : Did q b c) : Did q a c :=
  ⟨k.os.trans h.os, k.tape.trans h.tape, k.output.trans h.output, Nat.le_trans h.size k.size,
    fun i hi hn => (k.block i (Nat.lt_of_lt_of_le hi h.size) (fun m => (h.mine i m).elim hn (fun x => by omega))).trans (h.block i hi hn),
    fun i hm => (k.mine i hm).elim (h.mine i) (fun x => .inr (Nat.le_trans h.size x))⟩
theorem Did.below {q : Nat} {a b : World} (hq : q < a.heap.size) (h : Below a.heap.size a b) : Did q a b :=
  ⟨h.os, h.tape, h.output, h.size, fun k hk _ => h.block k hk, fun _ hm => .inl ((Mine.congr (h.block q hq)).1 hm)⟩
/-- All that is the sink's lies from B on: so below B nothing has turned. -/
theorem Did.toBelow {q B : Nat} {a b : World} (h : Did q a b) (hB : ∀ k, Mine a q k → B ≤ k) (hs : B ≤ a.heap.size) : Below B a b :=
  ⟨h.os, h.tape, h.output, h.size, fun k hk => h.block k (by omega) (fun m => by have := hB k m; omega)⟩
theorem Did.above {q B : Nat} {a b : World} (h : Did q a b) (hB : ∀ k, Mine a q k → B ≤ k) (hs : B ≤ a.heap.size) : ∀ k, Mine b q k → B ≤ k :=
  fun k m => (h.mine k m).elim (hB k) (fun x => by omega)

/-- The block q is a sink that holds acc. -/
structure SinkAt (w : World) (q : Nat) (acc : List UInt8) (room deep : Nat) (full : Bool) : Prop where
  ex : ∃ v, w.heap[q]? = some (.cells #[v, .int .i64 (room : Nat), .int .i64 (deep : Nat), .bool full] 146) ∧ w.ownsRow 0 5 1 v acc.length (Lib.byteCells acc) ∧ v.ownBlock ≠ some q
theorem mine_of {w : World} {q : Nat} {v r d f : Value} (h : w.heap[q]? = some (.cells #[v, r, d, f] 146)) (k : Nat) : Mine w q k ↔ k = q ∨ v.ownBlock = some k := by
  constructor
  · rintro (h1 | ⟨v', r', d', f', h1, h2⟩)
    · exact .inl h1
    · rw [h] at h1
      simp at h1
      rw [h1.1]; exact .inr h2
  · rintro (h1 | h1)
    · exact .inl h1
    · exact .inr ⟨v, r, d, f, h, h1⟩
theorem own_lt {w : World} {v : Value} {n : Nat} {xs : List Value} (h : w.ownsRow 0 5 1 v n xs) (k : Nat) (hk : v.ownBlock = some k) : k < w.heap.size := (h.lt k hk).2
theorem SinkAt.lt {w : World} {q : Nat} {acc : List UInt8} {room deep : Nat} {full : Bool} (h : SinkAt w q acc room deep full) : q < w.heap.size := by
  obtain ⟨v, h1, _⟩ := h.ex
  exact heap_lt h1
theorem SinkAt.mine_lt {w : World} {q : Nat} {acc : List UInt8} {room deep : Nat} {full : Bool} (h : SinkAt w q acc room deep full) (k : Nat) (hk : Mine w q k) : k < w.heap.size := by
  obtain ⟨v, h1, h2, _⟩ := h.ex
  rcases (mine_of h1 k).1 hk with rfl | h3
  · exact heap_lt h1
  · exact own_lt h2 k h3
theorem SinkAt.new (w : World) (room : Nat) : SinkAt (w.alloc (.cells #[.slice none 0 0, .int .i64 (room : Nat), .int .i64 0, .bool false] 146)) w.heap.size [] room 0 false :=
  ⟨_, heap_new _ _, World.ownsRow_nil _ _ _ _, by simp [Value.ownBlock]⟩
/-- What is no block of the sink's may turn. -/
theorem SinkAt.kept {w w' : World} {q : Nat} {acc : List UInt8} {room deep : Nat} {full : Bool} (h : SinkAt w q acc room deep full) (hb : ∀ k, Mine w q k → w'.heap[k]? = w.heap[k]?) : SinkAt w' q acc room deep full := by
  obtain ⟨v, h1, h2, h3⟩ := h.ex
  refine ⟨v, (hb q (.inl rfl)).trans h1, ?_, h3⟩
  refine ⟨h2.1, ?_⟩
  rcases h2.2 with h4 | ⟨g, cap, cur, hv, hb', hg, r⟩
  · exact .inl h4
  · refine .inr ⟨g, cap, cur, hv, hb', (hb g ?_).trans hg, r⟩
    exact (mine_of h1 g).2 (.inr (by rw [hv]; rfl))
theorem SinkAt.below {w w' : World} {q : Nat} {acc : List UInt8} {room deep : Nat} {full : Bool} (h : SinkAt w q acc room deep full) (hb : Below w.heap.size w w') : SinkAt w' q acc room deep full :=
  h.kept fun k hk => hb.block k (h.mine_lt k hk)
theorem SinkAt.c1 {w : World} {q : Nat} {acc : List UInt8} {room deep : Nat} {full : Bool} (h : SinkAt w q acc room deep full) : w.cell? ⟨q, 1, none⟩ = some (.int .i64 (room : Nat)) := by
  obtain ⟨v, h1, _⟩ := h.ex
  simp [World.cell?, h1]
theorem SinkAt.c3 {w : World} {q : Nat} {acc : List UInt8} {room deep : Nat} {full : Bool} (h : SinkAt w q acc room deep full) : w.cell? ⟨q, 3, none⟩ = some (.bool full) := by
  obtain ⟨v, h1, _⟩ := h.ex
  simp [World.cell?, h1]
theorem SinkAt.fz {w : World} {q : Nat} {acc : List UInt8} {room deep : Nat} {full : Bool} (h : SinkAt w q acc room deep full) (o : Nat) : w.frozen? ⟨q, o, none⟩ = false := by
  obtain ⟨v, h1, _⟩ := h.ex
  simp [World.frozen?, h1]
/-- A cell of the sink's own block, behind the text, is set. -/
theorem did_set {w : World} {q : Nat} {acc : List UInt8} {room deep : Nat} {full : Bool} (h : SinkAt w q acc room deep full) (o : Nat) (ho : 0 < o) (u : Value) : Did q w (w.setCell ⟨q, o, none⟩ u) := by
  obtain ⟨v, h1, h2, h3⟩ := h.ex
  refine ⟨rfl, rfl, rfl, by simp [World.setCell], fun k _ hk => Below.heap_setCell _ _ _ _ (fun e => hk (.inl e)), fun k hm => .inl ?_⟩
  have h4 := heap_set (o := o) h1 u
  rw [mine_of h1]
  match o, ho with
  | 1, _ => exact (mine_of (by simpa using h4) k).1 hm
  | 2, _ => exact (mine_of (by simpa using h4) k).1 hm
  | 3, _ => exact (mine_of (by simpa using h4) k).1 hm
  | n + 4, _ =>
    have : (#[v, .int .i64 (room : Nat), .int .i64 (deep : Nat), .bool full] : Array Value).setIfInBounds (n + 4) u = #[v, .int .i64 (room : Nat), .int .i64 (deep : Nat), .bool full] := by
      apply Array.ext'
      simp
    rw [this] at h4
    exact (mine_of h4 k).1 hm
theorem own_set {w : World} {q : Nat} {v : Value} {n : Nat} {xs : List Value} (h : w.ownsRow 0 5 1 v n xs) (hq : v.ownBlock ≠ some q) (o : Nat) (u : Value) : (w.setCell ⟨q, o, none⟩ u).ownsRow 0 5 1 v n xs := by
  refine ⟨h.1, ?_⟩
  rcases h.2 with h4 | ⟨g, cap, cur, hv, hb', hg, r⟩
  · exact .inl h4
  · refine .inr ⟨g, cap, cur, hv, hb', (Below.heap_setCell _ _ _ _ (fun e => hq ?_)).trans hg, r⟩
    rw [hv, show g = q from e]; rfl
theorem SinkAt.setRoom {w : World} {q : Nat} {acc : List UInt8} {room deep : Nat} {full : Bool} (h : SinkAt w q acc room deep full) (r : Nat) : SinkAt (w.setCell ⟨q, 1, none⟩ (.int .i64 (r : Nat))) q acc r deep full := by
  obtain ⟨v, h1, h2, h3⟩ := h.ex
  exact ⟨v, by simpa using heap_set (o := 1) h1 (.int .i64 (r : Nat)), own_set h2 h3 _ _, h3⟩
theorem SinkAt.setFull {w : World} {q : Nat} {acc : List UInt8} {room deep : Nat} {full : Bool} (h : SinkAt w q acc room deep full) (r : Bool) : SinkAt (w.setCell ⟨q, 3, none⟩ (.bool r)) q acc room deep r := by
  obtain ⟨v, h1, h2, h3⟩ := h.ex
  exact ⟨v, by simpa using heap_set (o := 3) h1 (.bool r), own_set h2 h3 _ _, h3⟩
end Go.Proofs.YtpcldpnaljheoaaGreatDoor.S
end
section
namespace Go.Proofs.YtpcldpnaljheoaaGreatDoor.S
open Go.RowKit

set_option maxHeartbeats 400000 in
theorem new_any (most : Int) (room : Nat) (hr : (room : Int) = max most 0) (w : World) :
    Calls Tryz.prog 50 #[.int .i64 most] w fun e w' => e = .returned (.pointer (some ⟨w.heap.size, 0, none⟩)) ∧ w' = w.alloc (.cells #[.slice none 0 0, .int .i64 (room : Nat), .int .i64 0, .bool false] 146) := by
  rw [hr]
  clear hr
  go_enter Tryz.func50, Tryz.ntmps50
  go_wp2
  all_goals
    go_ret
    first
      | exact ⟨rfl, rfl⟩
      | exact ⟨rfl, by rw [show max most 0 = 0 by omega]⟩
      | exact ⟨rfl, by rw [show max most 0 = most by omega]⟩

set_option maxHeartbeats 400000 in
theorem full_any {w : World} {q : Nat} {acc : List UInt8} {room deep : Nat} {full : Bool} (h : SinkAt w q acc room deep full) :
    Calls Tryz.prog 145 #[.pointer (some ⟨q, 0, none⟩)] w fun e w' => e = .returned (.bool full) ∧ w' = w := by
  have h3 := h.c3
  clear h
  go_enter Tryz.func145, Tryz.ntmps145
  go_wp2
  go_ret
  exact ⟨rfl, rfl⟩
theorem own_conv {w : World} {v : Value} {acc : List UInt8} (h : w.ownsRow 0 5 1 v acc.length (Lib.byteCells acc)) : (convert 142 9 v).run Tryz.prog w = .ok (.string ⟨acc.toArray⟩) w := by
  rcases h.2 with ⟨rfl, h2⟩ | ⟨g, cap, cur, rfl, _, hg, _, _, _, hcur⟩
  · have : acc = [] := List.eq_nil_of_length_eq_zero h2
    subst this
    exact run_convert_bytes_nil w 142 5 Tryz.underlying142 Tryz.underlying5 0 0 9 Tryz.underlying9
  · have e : strOfNums (acc.map fun b => (b.toNat : Int)) = ⟨acc.toArray⟩ := by
      unfold strOfNums
      rw [List.map_map]
      congr 2
      simp [Function.comp_def]
    rw [← e]
    refine run_convert_bytes_arg w 142 5 Tryz.underlying142 Tryz.underlying5 g 0 acc.length cap (acc.map fun b => (b.toNat : Int)) (by simp) ?_ 9 Tryz.underlying9
    intro i hi
    have h3 : cur.toList[i]? = (Lib.byteCells acc)[i]? := by rw [← hcur, List.getElem?_take]; simp [hi]
    unfold World.cell?
    simp only [hg, Nat.zero_add]
    have h4 : cur[i]? = (Lib.byteCells acc)[i]? := by rw [← h3]; simp
    simp [h4, Lib.byteCells, List.getElem?_eq_getElem hi, List.getD]
set_option maxHeartbeats 400000 in
theorem string_any {w : World} {q : Nat} {acc : List UInt8} {room deep : Nat} {full : Bool} (h : SinkAt w q acc room deep full) :
    Calls Tryz.prog 52 #[.pointer (some ⟨q, 0, none⟩)] w fun e w' => e = .returned (.string ⟨acc.toArray⟩) ∧ w' = w := by
  obtain ⟨v, h1, h2, h3⟩ := h.ex
  have h0 : w.cell? ⟨q, 0, none⟩ = some v := by simp [World.cell?, h1]
  have hv := own_conv h2
  clear h h1 h2 h3
  go_enter Tryz.func52, Tryz.ntmps52
  go_wp2
  go_ret
  exact ⟨rfl, rfl⟩
end Go.Proofs.YtpcldpnaljheoaaGreatDoor.S
end
section
namespace Go.Proofs.YtpcldpnaljheoaaGreatDoor.S
open Go.RowKit

def IsStrs (w : World) (a : Option Addr) (len cap : Nat) (ss : List ByteArray) : Prop :=
  ss.length = len ∧ len ≤ cap ∧ cap ≤ maxLen ∧ (∀ x ∈ ss, x.size ≤ maxLen) ∧ (len = 0 ∨ ∃ b o, a = some ⟨b, o, none⟩ ∧ b < w.heap.size ∧ ∀ j x, ss[j]? = some x → w.cell? ⟨b, o + j, none⟩ = some (.string x))
theorem cell_eq {w w' : World} {b o : Nat} (h : w'.heap[b]? = w.heap[b]?) : w'.cell? ⟨b, o, none⟩ = w.cell? ⟨b, o, none⟩ := by
  unfold World.cell?
  simp only [h]
/-- Texts that stand in no block of the sink's. -/
structure Parts (w : World) (q : Nat) (a : Option Addr) (len cap : Nat) (ss : List ByteArray) : Prop where
  strs : IsStrs w a len cap ss
  ap : len ≠ 0 → ∀ b o, a = some ⟨b, o, none⟩ → ¬ Mine w q b
theorem Parts.did {w w' : World} {a : Option Addr} {len cap q : Nat} {ss : List ByteArray} (h : Parts w q a len cap ss) (hb : Did q w w') : Parts w' q a len cap ss := by
  obtain ⟨⟨h1, h2, h3, h4, h5⟩, h6⟩ := h
  rcases h5 with h5 | ⟨b, o, rfl, hl, hc⟩
  · exact ⟨⟨h1, h2, h3, h4, .inl h5⟩, fun h => absurd h5 h⟩
  · by_cases h0 : len = 0
    · exact ⟨⟨h1, h2, h3, h4, .inl h0⟩, fun h => absurd h0 h⟩
    · have hn := h6 h0 b o rfl
      refine ⟨⟨h1, h2, h3, h4, .inr ⟨b, o, rfl, Nat.lt_of_lt_of_le hl hb.size, fun j x hx => (cell_eq (hb.block b hl hn)).trans (hc j x hx)⟩⟩, ?_⟩
      intro _ b' o' e hm
      cases e
      rcases hb.mine b hm with h | h
      · exact hn h
      · omega

/-- All texts, one behind the other. -/
def flat (ss : List ByteArray) : List UInt8 := (ss.map (·.data.toList)).flatten
theorem flat_nil : flat [] = [] := rfl
theorem flat_app (a b : List ByteArray) : flat (a ++ b) = flat a ++ flat b := by simp [flat]
theorem len_size (s : ByteArray) : s.data.toList.length = s.size := by simp
theorem flat_take {ss : List ByteArray} {k : Nat} {x : ByteArray} (h : ss[k]? = some x) : flat (ss.take (k + 1)) = flat (ss.take k) ++ x.data.toList := by
  rw [List.take_add_one, h, flat_app]
  simp [flat]
theorem flat_le (ss : List ByteArray) (k : Nat) : (flat (ss.take k)).length ≤ (flat ss).length := by
  have h := congrArg List.length (flat_app (ss.take k) (ss.drop k))
  rw [List.take_append_drop, List.length_append] at h
  omega
theorem flat_le2 {ss : List ByteArray} {k : Nat} {x : ByteArray} (h : ss[k]? = some x) : (flat (ss.take k)).length + x.size ≤ (flat ss).length := by
  have h1 := flat_le ss (k + 1)
  rw [flat_take h, List.length_append, len_size] at h1
  exact h1

theorem info5 : (Tryz.prog.info? 5).map (fun i => (i.zero, i.size, i.bytes)) = some (some (.int .u8 0), 1, 1) := by kernel_rfl
/-- Where the longer text lies: where the old one lay, or in a new block. -/
theorem app_loc {w : World} {v : Value} {n : Nat} {xs : List Value} (ty : TypeId) (hown : w.ownsRow 0 5 1 v n xs) (s : ByteArray) (hl : n + s.size ≤ 100000000) {v' : Value} {w' : World}
    (hr : (Builtin.append_ #[142, 9] ty #[v, .string s]).run Tryz.prog w = .ok v' w') : v'.ownBlock = v.ownBlock ∨ ∃ k, v'.ownBlock = some k ∧ w.heap.size ≤ k := by
  obtain ⟨i, hi, hz0, hz1, hz2⟩ := info_parts info5
  have hxl : xs.length = n := by simpa using hown.1
  rcases hown.2 with ⟨rfl, rfl⟩ | ⟨g, cap, cur, rfl, _, hg, hnc, hcm, hcs, htake⟩
  · have hx : xs = [] := List.eq_nil_of_length_eq_zero hxl
    subst hx
    obtain ⟨v2, w2, hr2, ho2, _⟩ := Lib.run_append_own_string (P := Tryz.prog) w w.heap.size 142 9 ty 5 i Tryz.underlying142 Tryz.underlying9 hi hz0 hz1 hz2 (.slice none 0 0) 0 [] (World.ownsRow_nil _ _ _ _) s (by unfold maxLen; omega) (by omega) (Nat.le_refl _)
    rw [hr] at hr2
    cases hr2
    rcases ho2.2 with ⟨rfl, _⟩ | ⟨g, cap, cur, rfl, hb, _⟩
    · exact .inl rfl
    · exact .inr ⟨g, rfl, hb⟩
  · by_cases hroom : n + s.size ≤ cap
    · have hr2 := Lib.run_append_room_string (P := Tryz.prog) w 142 9 ty 5 i Tryz.underlying142 Tryz.underlying9 hi hz1 g n cap cur hg s hroom (by omega)
      rw [hr] at hr2
      cases hr2
      exact .inl rfl
    · have hr2 := Lib.run_append_grow_string (P := Tryz.prog) w 142 9 ty 5 i (.int .u8 0) Tryz.underlying142 Tryz.underlying9 hi hz0 ⟨g, 0, none⟩ n cap xs (by rw [hz1]; simpa using hxl) (hown.cells (g := g) rfl) s (by omega) (by omega) (by rw [hz2]; exact growslice_fits (by omega) (by omega))
      rw [hr] at hr2
      cases hr2
      exact .inr ⟨w.heap.size, rfl, Nat.le_refl _⟩
theorem wp_app {ops : Array Oper} {rest : List Oper} {o : Oper} {a : Act} {Q : Exit → Act → World → Prop} (hgd : o.guard = none) (sl x : Operand)
    (ho : o.op = .call { callee := .builtin .append, args := #[sl, x], argTypes := #[142, 9] })
    {w : World} {v : Value} {acc : List UInt8} (s : ByteArray) (hown : w.ownsRow 0 5 1 v acc.length (Lib.byteCells acc)) (hs : a.eval sl = v) (hx : a.eval x = .string s) (hl : acc.length + s.size ≤ 100000000)
    (hk : ∀ v' w', w'.ownsRow 0 5 1 v' (acc ++ s.data.toList).length (Lib.byteCells (acc ++ s.data.toList)) → w.grownBy w' v.ownBlock → (v'.ownBlock = v.ownBlock ∨ ∃ k, v'.ownBlock = some k ∧ w.heap.size ≤ k) → wpList Tryz.prog ops Q rest (a.put o.dst v') w') :
    wpList Tryz.prog ops Q (o :: rest) a w := by
  obtain ⟨i, hi, hz0, hz1, hz2⟩ := info_parts info5
  refine wpList_plain hgd fun K hK => ?_
  obtain ⟨v', w', hr, h2, h3, _⟩ := Lib.run_append_own_string (P := Tryz.prog) w 0 142 9 o.type 5 i Tryz.underlying142 Tryz.underlying9 hi hz0 hz1 hz2 v acc.length (Lib.byteCells acc) hown s (by unfold maxLen; omega) (by omega) (Nat.zero_le _)
  have hloc := app_loc o.type hown s hl hr
  unfold Oper.wp execOp
  simp only [ho, resolve, invoke, builtin, Sem.run_bind, Sem.run_pure, Result.andThen_ok, List.map_toArray, List.map_cons, List.map_nil, hs, hx, hr]
  refine hK _ _ (hk v' w' ?_ h3 hloc)
  rw [Lib.byteCells_append, List.length_append, len_size]
  exact h2
theorem stored {w w' : World} {q : Nat} {v v' : Value} {acc' : List UInt8} {room deep : Nat} {full : Bool} (h1 : w.heap[q]? = some (.cells #[v, .int .i64 (room : Nat), .int .i64 (deep : Nat), .bool full] 146))
    (h3 : v.ownBlock ≠ some q) (o : w'.ownsRow 0 5 1 v' acc'.length (Lib.byteCells acc')) (g : w.grownBy w' v.ownBlock) (l : v'.ownBlock = v.ownBlock ∨ ∃ k, v'.ownBlock = some k ∧ w.heap.size ≤ k) :
    SinkAt (w'.setCell ⟨q, 0, none⟩ v') q acc' room deep full ∧ Did q w (w'.setCell ⟨q, 0, none⟩ v') := by
  have hq := heap_lt h1
  have e : w'.heap[q]? = some (.cells #[v, .int .i64 (room : Nat), .int .i64 (deep : Nat), .bool full] 146) := (g.block q hq (fun e => h3 e.symm)).trans h1
  have e2 : (w'.setCell ⟨q, 0, none⟩ v').heap[q]? = some (.cells #[v', .int .i64 (room : Nat), .int .i64 (deep : Nat), .bool full] 146) := by simpa using heap_set (o := 0) e v'
  have h4 : v'.ownBlock ≠ some q := by
    rcases l with l | ⟨k, l, hk⟩
    · rw [l]; exact h3
    · rw [l]; intro e; cases e; omega
  refine ⟨⟨v', e2, own_set o h4 _ _, h4⟩, g.os, g.tape, g.output, ?_, ?_, ?_⟩
  · show w.heap.size ≤ (w'.setCell ⟨q, 0, none⟩ v').heap.size
    simpa [World.setCell] using g.size
  · intro k hk hm
    rw [mine_of h1] at hm
    refine (Below.heap_setCell _ _ _ _ (fun e => hm (.inl e))).trans (g.block k hk (fun e => hm (.inr e.symm)))
  · intro k hm
    rw [mine_of e2] at hm
    rw [mine_of h1]
    rcases hm with rfl | hm
    · exact .inl (.inl rfl)
    · rcases l with l | ⟨k2, l, hk⟩
      · rw [l] at hm; exact .inl (.inr hm)
      · rw [l] at hm; cases hm; exact .inr hk
set_option maxHeartbeats 800000 in
theorem add_any {w : World} {q : Nat} {acc : List UInt8} {room deep : Nat} {full : Bool} (h : SinkAt w q acc room deep full) {a : Option Addr} {len cap : Nat} {ss : List ByteArray} (hS : Parts w q a len cap ss)
    (hl : acc.length + (flat ss).length ≤ 100000000) :
    Calls Tryz.prog 146 #[.pointer (some ⟨q, 0, none⟩), .slice a len cap] w fun e w' => e = .returned (.tuple #[]) ∧ SinkAt w' q (acc ++ flat ss) room deep full ∧ Did q w w' := by
  have HS := Lib.hid hS
  have HA := Lib.hid h
  have hcap : len ≤ maxLen := by have := hS.strs.2.1; have := hS.strs.2.2.1; omega
  unfold maxLen at hcap
  have HL := Lib.hid hS.strs.1
  clear hS h
  go_enter Tryz.func146, Tryz.ntmps146
  go_wp2_with fail
  go_loopw [8] (fun i wr => ∃ k : Nat, i = .int .i64 k ∧ k ≤ len ∧ SinkAt wr q (acc ++ flat (ss.take k)) room deep full ∧ Did q w wr) (fun i _ => len - (intOf i).toNat)
  case atStart => exact ⟨0, rfl, Nat.zero_le _, by simpa [flat_nil] using HA.out, Did.refl _ _⟩
  case round =>
    obtain ⟨k, rfl, hk, hs, hd⟩ := hrel
    have S := Lib.hid hs
    have D := Lib.hid hd
    clear hs hd
    by_cases hlt : k < len
    · obtain ⟨x, hx⟩ : ∃ x, ss[k]? = some x := ⟨ss[k]'(by rw [HL.out]; exact hlt), List.getElem?_eq_getElem _⟩
      rcases (HS.out.did D.out).strs.2.2.2.2 with h0 | ⟨b, o, rfl, hbl, hcell⟩
      · omega
      · have hc := hcell k x hx
        have hfl := flat_le2 hx
        have FT := Lib.hid (flat_take hx)
        clear hcell hx
        obtain ⟨v, h1, h2, h3⟩ := S.out.ex
        have hv : wr.cell? ⟨q, 0, none⟩ = some v := by simp [World.cell?, h1]
        have H1 := Lib.hid h1
        have H2 := Lib.hid h2
        have H3 := Lib.hid h3
        clear h1 h2 h3
        go_wp2_with (at_builtin; refine wp_app rfl (.tmp 16) (.tmp 17) rfl x H2.out rfl rfl (by rw [List.length_append]; omega) ?_)
        intro v' w' o' g' l'
        have hq := H3.out
        have hc1 : w'.cell? ⟨q, 0, none⟩ = some v := (cell_eq (g'.block q (heap_lt H1.out) (fun e => hq e.symm))).trans hv
        have hc2 : w'.frozen? ⟨q, 0, none⟩ = false := by
          have e := (g'.block q (heap_lt H1.out) (fun e => hq e.symm)).trans H1.out
          simp [World.frozen?, e]
        have R := Lib.hid (stored (acc' := acc ++ (flat (ss.take k) ++ x.data.toList)) H1.out hq (by rw [List.length_append, List.length_append, len_size]; exact o') g' l')
        rcases o'.2 with ⟨rfl, _⟩ | ⟨g2, cap2, cur2, rfl, _⟩
        · clear o' g' l' hq hv
          go_wp2_with fail
          go_roundw
          case rel => exact ⟨k + 1, by go_num, by omega, by rw [FT.out]; exact R.out.1, D.out.trans R.out.2⟩
          case measure => simp [intOf]; omega
        · clear o' g' l' hq hv
          go_wp2_with fail
          go_roundw
          case rel => exact ⟨k + 1, by go_num, by omega, by rw [FT.out]; exact R.out.1, D.out.trans R.out.2⟩
          case measure => simp [intOf]; omega
    · have hk2 : k = len := by omega
      subst hk2
      have e : ss.take k = ss := List.take_of_length_le (by rw [HL.out]; omega)
      have S2 : Hid (SinkAt wr q (acc ++ flat ss) room deep full) := Lib.hid (by rw [← e]; exact S.out)
      clear e
      go_wp2_with fail
      go_end0
      exact ⟨rfl, S2.out, D.out⟩

set_option maxHeartbeats 800000 in
theorem put_open {w : World} {q : Nat} {acc : List UInt8} {room deep : Nat} (h : SinkAt w q acc room deep false) {a : Option Addr} {len cap : Nat} {ss : List ByteArray} (hS : Parts w q a len cap ss)
    (hl : acc.length + (flat ss).length ≤ 100000000) (hr : room ≤ 9223372036854775807) (ok : Bool) (hok : ok = decide ((flat ss).length ≤ room)) :
    Calls Tryz.prog 92 #[.pointer (some ⟨q, 0, none⟩), .slice a len cap] w fun e w' => e = .returned (.bool ok) ∧ (if ok then SinkAt w' q (acc ++ flat ss) (room - (flat ss).length) deep false else SinkAt w' q acc room deep true) ∧ Did q w w' := by
  have HS := Lib.hid hS
  have HA := Lib.hid h
  have h1 := h.c1
  have hcap : len ≤ maxLen := by have := hS.strs.2.1; have := hS.strs.2.2.1; omega
  unfold maxLen at hcap
  have HL := Lib.hid hS.strs.1
  have HK := Lib.hid hok
  clear hS h hok
  go_enter Tryz.func92, Tryz.ntmps92
  go_wp2_with fail
  refine (full_any HA.out).mono ?_
  rintro e w' ⟨rfl, rfl⟩
  go_wp2_with fail
  go_loopw [5, 16] (fun r i wr => ∃ k : Nat, r = .int .i64 ((room - (flat (ss.take k)).length : Nat) : Nat) ∧ i = .int .i64 k ∧ k ≤ len ∧ wr = w' ∧ (flat (ss.take k)).length ≤ room) (fun _ i _ => len - (intOf i).toNat)
  case atStart => exact ⟨0, by simp [flat_nil], rfl, Nat.zero_le _, rfl, by simp [flat_nil]⟩
  case round =>
    obtain ⟨k, rfl, rfl, hk, rfl, hfr⟩ := hrel
    by_cases hlt : k < len
    · obtain ⟨x, hx⟩ : ∃ x, ss[k]? = some x := ⟨ss[k]'(by rw [HL.out]; exact hlt), List.getElem?_eq_getElem _⟩
      rcases HS.out.strs.2.2.2.2 with h0 | ⟨b, o, rfl, hbl, hcell⟩
      · omega
      · have hc := hcell k x hx
        have hfl := flat_le2 hx
        have hfk : (flat (ss.take (k + 1))).length = (flat (ss.take k)).length + x.size := by rw [flat_take hx, List.length_append, len_size]
        have hf1 := flat_le ss (k + 1)
        clear hcell hx
        generalize hn : (flat (ss.take k)).length = n at *
        generalize hm : (flat (ss.take (k + 1))).length = m at *
        by_cases hgt : room < n + x.size
        · have hd : decide (((room - n : Nat) : Int) < (x.size : Int)) = true := by simp; omega
          have hff : ok = false := by rw [HK.out]; simp; omega
          subst hff
          have hz := HA.out.fz 3
          have hc3 := HA.out.c3
          go_wp2_with fail
          go_ret
          exact ⟨rfl, HA.out.setFull true, did_set HA.out 3 (by omega) _⟩
        · have hd : decide (((room - n : Nat) : Int) < (x.size : Int)) = false := by simp; omega
          have hw : IntKind.i64.wrap (((room - n : Nat) : Int) - (x.size : Int)) = ((room - m : Nat) : Int) := by rw [IntWalk.i64_in _ (by omega)]; omega
          go_wp2_with fail
          go_roundw
          case rel =>
            refine ⟨k + 1, ?_, by go_num, by omega, trivial, by omega⟩
            rw [hm, hfk]
          case measure => simp [intOf]; omega
    · have hk2 : k = len := by omega
      subst hk2
      have e : ss.take k = ss := List.take_of_length_le (by rw [HL.out]; omega)
      rw [e] at hfr ⊢
      clear e
      have hff : ok = true := by rw [HK.out]; simpa using hfr
      subst hff
      have hz := HA.out.fz 1
      go_wp2_with fail
      have D1 := Lib.hid (did_set HA.out 1 (by omega) (.int .i64 ((room - (flat ss).length : Nat) : Nat)))
      have A1 := Lib.hid (HA.out.setRoom (room - (flat ss).length))
      have S1 := Lib.hid (HS.out.did D1.out)
      refine (add_any A1.out S1.out (by omega)).mono ?_
      rintro e w2 ⟨rfl, s2, d2⟩
      have S2 := Lib.hid s2
      have D2 := Lib.hid (D1.out.trans d2)
      clear s2 d2
      go_wp2_with fail
      go_ret
      exact ⟨rfl, S2.out, D2.out⟩
end Go.Proofs.YtpcldpnaljheoaaGreatDoor.S
end
section
namespace Go.Proofs.YtpcldpnaljheoaaGreatDoor
open Go.RowKit Go.Deep

/-- A sink with more room than anybody needs. -/
structure SP (q : Nat) (acc : List UInt8) (w : World) : Prop where
  ex : ∃ room, S.SinkAt w q acc room 0 false ∧ room + acc.length = 9223372036854775807
  le : acc.length ≤ 100000000
theorem SP.did {q : Nat} {acc : List UInt8} {w w' : World} (h : SP q acc w) (b : Below w.heap.size w w') : SP q acc w' := by
  obtain ⟨room, h1, h2⟩ := h.ex
  exact ⟨⟨room, h1.below b, h2⟩, h.le⟩
theorem SP.mine_lt {q : Nat} {acc : List UInt8} {w : World} (h : SP q acc w) (k : Nat) (hk : S.Mine w q k) : k < w.heap.size := by
  obtain ⟨room, h1, _⟩ := h.ex
  exact h1.mine_lt k hk
theorem SP.lt {q : Nat} {acc : List UInt8} {w : World} (h : SP q acc w) : q < w.heap.size := by
  obtain ⟨room, h1, _⟩ := h.ex
  exact h1.lt
structure PrI (w0 : World) (q : Nat) (acc : List UInt8) (W : World) : Prop where
  sp : SP q acc W
  hi : ∀ k, S.Mine W q k → w0.heap.size ≤ k
  lo : Below w0.heap.size w0 W
  gt : Gt w0
theorem PrI.next {w0 : World} {q : Nat} {acc acc' : List UInt8} {W W' : World} (h : PrI w0 q acc W) (s : SP q acc' W') (d : S.Did q W W') : PrI w0 q acc' W' :=
  ⟨s, d.above h.hi h.lo.size, h.lo.trans (d.toBelow h.hi h.lo.size), h.gt⟩
theorem PrI.below {w0 : World} {q : Nat} {acc : List UInt8} {W W' : World} (h : PrI w0 q acc W) (b : Below W.heap.size W W') : PrI w0 q acc W' :=
  h.next (h.sp.did b) (S.Did.below h.sp.lt b)
theorem PrI.gtW {w0 : World} {q : Nat} {acc : List UInt8} {W : World} (h : PrI w0 q acc W) : Gt W := h.gt.below h.lo
def PrPost (w0 : World) (q : Nat) (acc t : List UInt8) (w : World) (e : Ending) (w' : World) : Prop :=
  e = .returned (.tuple #[]) ∧ PrI w0 q (acc ++ t) w' ∧ S.Did q w w'
theorem parts_new {w : World} {q : Nat} {acc : List UInt8} (h : SP q acc w) (ss : List ByteArray) (hs : ∀ x ∈ ss, x.size ≤ maxLen) (hl : ss.length ≤ maxLen) :
    S.Parts (w.alloc (.cells (ss.map Value.string).toArray 9)) q (some ⟨w.heap.size, 0, none⟩) ss.length ss.length ss := by
  refine ⟨⟨rfl, Nat.le_refl _, hl, hs, .inr ⟨w.heap.size, 0, rfl, by simp, fun j x hx => ?_⟩⟩, fun _ b o e hm => ?_⟩
  · rw [Nat.zero_add]
    refine (box_cells (heap_new w _) j).trans ?_
    simp [hx]
  · injection e with e
    injection e with e1 e2
    subst e1
    have h1 := (S.Mine.congr (((Below.refl w.heap.size w).alloc (Nat.le_refl _) (.cells (ss.map Value.string).toArray 9)).block q h.lt)).1 hm
    exact absurd (h.mine_lt _ h1) (Nat.lt_irrefl _)
theorem put_any {w : World} {q : Nat} {acc : List UInt8} (h : SP q acc w) {a : Option Addr} {len cap : Nat} {ss : List ByteArray} (hS : S.Parts w q a len cap ss) (hl : acc.length + (S.flat ss).length ≤ 100000000) :
    Calls Tryz.prog 92 #[.pointer (some ⟨q, 0, none⟩), .slice a len cap] w fun e w' => e = .returned (.bool true) ∧ SP q (acc ++ S.flat ss) w' ∧ S.Did q w w' := by
  obtain ⟨room, h1, h2⟩ := h.ex
  refine (S.put_open h1 hS hl (by omega) true (by simp; omega)).mono ?_
  rintro e w' ⟨rfl, h3, h4⟩
  exact ⟨rfl, ⟨⟨_, h3, by rw [List.length_append]; omega⟩, by rw [List.length_append]; omega⟩, h4⟩
/-- Texts that are written out. -/
theorem put_lit {w0 : World} {q : Nat} {acc : List UInt8} {W : World} (h : PrI w0 q acc W) (ss : List ByteArray) (hs : ∀ x ∈ ss, x.size ≤ maxLen) (hn : ss.length ≤ 10) (hl : acc.length + (S.flat ss).length ≤ 100000000) {z : Nat} (hz : W.heap.size = z) :
    Calls Tryz.prog 92 #[.pointer (some ⟨q, 0, none⟩), .slice (some ⟨z, 0, none⟩) ss.length ss.length] (W.alloc (.cells (ss.map Value.string).toArray 9)) fun e w' => e = .returned (.bool true) ∧ PrI w0 q (acc ++ S.flat ss) w' ∧ S.Did q W w' := by
  subst hz
  have n1 := (Below.refl W.heap.size W).alloc (Nat.le_refl _) (.cells (ss.map Value.string).toArray 9)
  refine (put_any (h.sp.did n1) (parts_new h.sp ss hs (Nat.le_trans hn (by decide))) hl).mono ?_
  rintro e w' ⟨rfl, s, d⟩
  exact ⟨rfl, (h.below n1).next s d, (S.Did.below h.sp.lt n1).trans d⟩
/-- Two boxes of a call of the printer's, and what it has written. -/
structure PF (w0 : World) (q b : Nat) (op n : Int) (nm fd : ByteArray) (a : Option Addr) (len c : Nat) (acc : List UInt8) (w W : World) : Prop where
  pr : PrI w0 q acc W
  bp : W.heap[b]? = some (.cells #[.pointer (some ⟨q, 0, none⟩), .func (.func 27) #[] #[], .func (.func 28) #[] #[]] 99)
  be : W.heap[b + 1]? = some (.cells #[.int .i64 op, .int .i64 n, .string nm, .string fd, .slice a len c] 25)
  n0 : ¬ S.Mine W q b
  n1 : ¬ S.Mine W q (b + 1)
  did : S.Did q w W
theorem PF.next {w0 : World} {q b : Nat} {op n : Int} {nm fd : ByteArray} {a : Option Addr} {len c : Nat} {acc acc' : List UInt8} {w W W' : World} (h : PF w0 q b op n nm fd a len c acc w W) (p : PrI w0 q acc' W') (d : S.Did q W W') : PF w0 q b op n nm fd a len c acc' w W' := by
  have h0 := heap_lt h.bp
  have h1 := heap_lt h.be
  exact ⟨p, (d.block _ h0 h.n0).trans h.bp, (d.block _ h1 h.n1).trans h.be, fun m => (d.mine _ m).elim h.n0 (fun x => by omega), fun m => (d.mine _ m).elim h.n1 (fun x => by omega), h.did.trans d⟩
theorem PF.below {w0 : World} {q b : Nat} {op n : Int} {nm fd : ByteArray} {a : Option Addr} {len c : Nat} {acc : List UInt8} {w W W' : World} (h : PF w0 q b op n nm fd a len c acc w W) (d : Below W.heap.size W W') : PF w0 q b op n nm fd a len c acc w W' :=
  h.next (h.pr.below d) (S.Did.below h.pr.sp.lt d)
theorem PF.start {w0 : World} {q : Nat} {acc : List UInt8} {w : World} (h : PrI w0 q acc w) (op n : Int) (nm fd : ByteArray) (a : Option Addr) (len c : Nat) :
    PF w0 q w.heap.size op n nm fd a len c acc w ((w.alloc (.cells #[.pointer (some ⟨q, 0, none⟩), .func (.func 27) #[] #[], .func (.func 28) #[] #[]] 99)).alloc (.cells #[.int .i64 op, .int .i64 n, .string nm, .string fd, .slice a len c] 25)) := by
  have n1 := (Below.refl w.heap.size w).alloc (Nat.le_refl _) (.cells #[.pointer (some ⟨q, 0, none⟩), .func (.func 27) #[] #[], .func (.func 28) #[] #[]] 99)
  have n2 := n1.alloc n1.size (.cells #[.int .i64 op, .int .i64 n, .string nm, .string fd, .slice a len c] 25)
  have e1 : (w.alloc (.cells #[.pointer (some ⟨q, 0, none⟩), .func (.func 27) #[] #[], .func (.func 28) #[] #[]] 99)).heap.size = w.heap.size + 1 := by simp
  have k2 := heap_new (w.alloc (.cells #[.pointer (some ⟨q, 0, none⟩), .func (.func 27) #[] #[], .func (.func 28) #[] #[]] 99)) (.cells #[.int .i64 op, .int .i64 n, .string nm, .string fd, .slice a len c] 25)
  have m2 := (Below.refl _ (w.alloc (.cells #[.pointer (some ⟨q, 0, none⟩), .func (.func 27) #[] #[], .func (.func 28) #[] #[]] 99))).alloc (Nat.le_refl _) (.cells #[.int .i64 op, .int .i64 n, .string nm, .string fd, .slice a len c] 25)
  rw [e1] at k2 m2
  have hm : ∀ k, w.heap.size ≤ k → ¬ S.Mine ((w.alloc (.cells #[.pointer (some ⟨q, 0, none⟩), .func (.func 27) #[] #[], .func (.func 28) #[] #[]] 99)).alloc (.cells #[.int .i64 op, .int .i64 n, .string nm, .string fd, .slice a len c] 25)) q k := fun k hk m => by
    have := h.sp.mine_lt k ((S.Mine.congr (n2.block q h.sp.lt)).1 m)
    omega
  exact ⟨h.below n2, (m2.block _ (by omega)).trans (heap_new w _), k2, hm _ (Nat.le_refl _), hm _ (by omega), S.Did.below h.sp.lt n2⟩
def prV (q : Nat) : Value := .agg #[.pointer (some ⟨q, 0, none⟩), .func (.func 27) #[] #[], .func (.func 28) #[] #[]]
/-- A call of the printer's for a part. -/
def PrFn (w0 : World) (q : Nat) (t : List D → List UInt8) (y : List D) : Prop := ∀ vs, AllAt w0 vs y → ∀ acc W, PrI w0 q acc W → acc.length + (t y).length ≤ 100000000 → Calls Tryz.prog 51 #[prV q, .agg ⟨vs⟩] W (PrPost w0 q acc (t y) W)
end Go.Proofs.YtpcldpnaljheoaaGreatDoor
end
section
namespace Go.Proofs.YtpcldpnaljheoaaGreatDoor
open Go.RowKit Go.Deep

def optP (asked : Nat) (t : List D → List UInt8) (y : List D) : List UInt8 := if asked ≤ (sgnP (opX y)).lv then t y else 40 :: (t y ++ [41])
theorem one_le (x : ByteArray) (h : x.size ≤ maxLen) : ∀ y ∈ [x], y.size ≤ maxLen := fun y hy => by rw [List.mem_singleton.1 hy]; exact h
theorem flat1 (x : ByteArray) : S.flat [x] = x.data.toList := by simp [S.flat]
theorem PrPost.of {w0 : World} {q : Nat} {acc acc' t : List UInt8} {w w' : World} (h : PrI w0 q acc' w') (e : acc' = acc ++ t) (d : S.Did q w w') : PrPost w0 q acc t w (.returned (.tuple #[])) w' := ⟨rfl, e ▸ h, d⟩
theorem field_lv (st : ByteArray) (lv lf rt : Int) (w : World) : (Instr.field 103 (.agg #[.string st, .int .i64 lv, .int .i64 lf, .int .i64 rt]) 1).run Tryz.prog w = .ok (.int .i64 lv) w := by kernel_rfl
set_option maxRecDepth 100000 in
set_option maxHeartbeats 2000000 in
theorem operand_any {w0 : World} {q : Nat} {t : List D → List UInt8} {y : List D} (hf : PrFn w0 q t y) (hs : ShE y) (hop : opX y ≤ 24) {vs : List Value} (hv : AllAt w0 vs y) (asked : Nat) {acc : List UInt8} {W : World} (h : PrI w0 q acc W) (hl : acc.length + (optP asked t y).length ≤ 100000000) :
    Calls Tryz.prog 147 #[prV q, .agg ⟨vs⟩, .int .i64 (asked : Nat)] W (PrPost w0 q acc (optP asked t y) W) := by
  have HV := Lib.hid hv
  obtain ⟨op, n, nm, fd, kl, kla, klc, rfl, rfl, _⟩ := hv.openE hs
  have hop' : op ≤ 24 := hop
  have hlv : (sgnP op).lv ≤ 4 := by
    unfold sgnP tabS
    split
    · decide
    · split
      · decide
      · split
        · split
          · exact (by decide : (1 : Nat) ≤ 4)
          · split
            · exact (by decide : (2 : Nat) ≤ 4)
            · exact (by decide : (3 : Nat) ≤ 4)
        · decide
  have F0 := Lib.hid (PF.start h op n nm fd kla kl.length klc)
  have HS := Lib.hid (fun (U : World) (G : Gt U) => sgn_any G hop')
  have HF := Lib.hid hf
  unfold optP at hl ⊢
  rw [show opX [.int op, .int n, .str nm, .str fd, .row kl] = op from rfl] at hl ⊢
  generalize sgnP op = sg at HS hlv hl ⊢
  obtain ⟨st, lv, lf, rt⟩ := sg
  dsimp only at hlv hl ⊢
  unfold SgPost sgV at HS
  dsimp only at HS
  have hfl := field_lv st (lv : Nat) (lf : Nat) (rt : Nat)
  clear hv hs hop hop' h hf
  by_cases hle : asked ≤ lv
  · have d1 : decide ((lv : Int) ≥ (asked : Int)) = true := by simp; omega
    have d2 : decide ((asked : Int) ≤ (lv : Int)) = true := by simp; omega
    have d3 : decide (asked ≤ lv) = true := by simp; omega
    rw [if_pos hle] at hl
    rw [if_pos hle]
    have HL := Lib.hid hl
    clear hle hl
    generalize hy : ([.int op, .int n, .str nm, .str fd, .row kl] : List D) = y at HV HF HL ⊢
    clear hy
    unfold prV
    go_enter Tryz.func147, Tryz.ntmps147
    go_wp2_with fail
    generalize (W.alloc (.cells #[.pointer (some ⟨q, 0, none⟩), .func (.func 27) #[] #[], .func (.func 28) #[] #[]] 99)).alloc (.cells #[.int .i64 op, .int .i64 n, .string nm, .string fd, .slice kla kl.length klc] 25) = W0 at F0 ⊢
    have gp := box_cells F0.out.bp
    have ge := box_cells F0.out.be
    go_wp2_with fail
    refine (HS.out _ F0.out.pr.gtW).mono ?_
    rintro e w1 ⟨rfl, b1⟩
    have F1 := Lib.hid (F0.out.below b1)
    have gp1 := box_cells F1.out.bp
    have ge1 := box_cells F1.out.be
    clear b1 gp ge
    go_wp2_with fail
    refine (HF.out _ HV.out _ _ F1.out.pr HL.out).mono ?_
    rintro e w2 ⟨rfl, p2, d2⟩
    have P2 := Lib.hid p2
    have D2 := Lib.hid (F1.out.did.trans d2)
    clear p2 d2
    go_wp2_with fail
    go_end0
    exact ⟨rfl, P2.out, D2.out⟩
  · have d1 : decide ((lv : Int) ≥ (asked : Int)) = false := by simp; omega
    have d2 : decide ((asked : Int) ≤ (lv : Int)) = false := by simp; omega
    have d3 : decide (asked ≤ lv) = false := by simp; omega
    rw [if_neg hle] at hl
    rw [if_neg hle]
    have HL := Lib.hid hl
    clear hle hl
    generalize hy : ([.int op, .int n, .str nm, .str fd, .row kl] : List D) = y at HV HF HL ⊢
    clear hy
    unfold prV
    go_enter Tryz.func147, Tryz.ntmps147
    go_wp2_with fail
    generalize (W.alloc (.cells #[.pointer (some ⟨q, 0, none⟩), .func (.func 27) #[] #[], .func (.func 28) #[] #[]] 99)).alloc (.cells #[.int .i64 op, .int .i64 n, .string nm, .string fd, .slice kla kl.length klc] 25) = W0 at F0 ⊢
    have gp := box_cells F0.out.bp
    have ge := box_cells F0.out.be
    go_wp2_with fail
    refine (HS.out _ F0.out.pr.gtW).mono ?_
    rintro e w1 ⟨rfl, b1⟩
    have F1 := Lib.hid (F0.out.below b1)
    have gp1 := box_cells F1.out.bp
    have ge1 := box_cells F1.out.be
    have hl1 : acc.length + (S.flat [⟨#[40]⟩]).length ≤ 100000000 := by rw [flat1]; have := HL.out; simp at this ⊢; omega
    have P1 := Lib.hid (put_lit F1.out.pr [⟨#[40]⟩] (one_le _ (by decide)) (by decide) hl1 rfl)
    clear b1 gp ge hl1
    go_wp2_with fail
    refine P1.out.mono ?_
    rintro e w2 ⟨rfl, p2, e2⟩
    have F2 := Lib.hid (F1.out.next p2 e2)
    have gp2 := box_cells F2.out.bp
    have ge2 := box_cells F2.out.be
    have hl2 : (acc ++ S.flat [⟨#[40]⟩]).length + (t y).length ≤ 100000000 := by rw [flat1]; have := HL.out; simp at this ⊢; omega
    have HL2 := Lib.hid hl2
    clear p2 e2 gp1 ge1 hl2 P1
    go_wp2_with fail
    refine (HF.out _ HV.out _ _ F2.out.pr HL2.out).mono ?_
    rintro e w3 ⟨rfl, p3, e3⟩
    have F3 := Lib.hid (F2.out.next p3 e3)
    have gp3 := box_cells F3.out.bp
    have hl3 : (acc ++ S.flat [⟨#[40]⟩] ++ t y).length + (S.flat [⟨#[41]⟩]).length ≤ 100000000 := by rw [flat1, flat1]; have := HL.out; simp at this ⊢; omega
    have P3 := Lib.hid (put_lit F3.out.pr [⟨#[41]⟩] (one_le _ (by decide)) (by decide) hl3 rfl)
    clear p3 e3 gp2 ge2 hl3
    go_wp2_with fail
    refine P3.out.mono ?_
    rintro e w4 ⟨rfl, p4, e4⟩
    have P4 := Lib.hid p4
    have D4 := Lib.hid (F3.out.did.trans e4)
    clear p4 e4
    go_wp2_with fail
    go_end0
    exact PrPost.of P4.out (by rw [flat1, flat1]; simp) D4.out
end Go.Proofs.YtpcldpnaljheoaaGreatDoor
end
section
namespace Go.Proofs.YtpcldpnaljheoaaGreatDoor
open Go.RowKit Go.Deep

/-- An element of a row of expressions, opened. -/
theorem At.elemE {w : World} {a : Option Addr} {len c : Nat} {l : List (List D)} (h : At w (.slice a len c) (.row l)) {j : Nat} {y : List D} (hy : l[j]? = some y) (hs : ShE y) :
    ∃ b o op n nm fd la ln lc, a = some ⟨b, o, none⟩ ∧ b < w.heap.size ∧ AllAt w [.int .i64 op, .int .i64 n, .string nm, .string fd, .slice la ln lc] y ∧
      w.cell? ⟨b, o + j * 5, none⟩ = some (.int .i64 op) ∧ w.cell? ⟨b, o + j * 5 + 1, none⟩ = some (.int .i64 n) ∧ w.cell? ⟨b, o + j * 5 + 2, none⟩ = some (.string nm) ∧ w.cell? ⟨b, o + j * 5 + 3, none⟩ = some (.string fd) ∧ w.cell? ⟨b, o + j * 5 + 4, none⟩ = some (.slice la ln lc) := by
  have hj : j < len := by rw [← h.len_eq.1]; exact (List.getElem?_eq_some_iff.1 hy).1
  obtain ⟨b, o, vs, ds, rfl, hb, hx, hv, hc⟩ := h.elem hj
  rw [hy] at hx
  obtain rfl := Option.some.inj hx
  rw [hs.ln] at hc
  obtain ⟨op, n, nm, fd, kl, kla, klc, _, rfl, _⟩ := hv.openE hs
  exact ⟨b, o, op, n, nm, fd, kla, kl.length, klc, rfl, hb, hv, hc 0 _ rfl, hc 1 _ rfl, hc 2 _ rfl, hc 3 _ rfl, hc 4 _ rfl⟩
def ahdP (op : Int) (t : List D → List UInt8) (y : List D) : List UInt8 := (sgnP op).t.data.toList ++ optP (sgnP op).rt t y
/-- Three boxes: the sign too. -/
theorem PF.sign {w0 : World} {q b : Nat} {op n : Int} {nm fd : ByteArray} {a : Option Addr} {len c : Nat} {acc : List UInt8} {w W : World} (h : PF w0 q b op n nm fd a len c acc w W) (o : Obj) : PF w0 q b op n nm fd a len c acc w (W.alloc o) ∧ (W.alloc o).heap[W.heap.size]? = some o ∧ ¬ S.Mine (W.alloc o) q W.heap.size := by
  have n1 := (Below.refl W.heap.size W).alloc (Nat.le_refl _) o
  refine ⟨h.below n1, heap_new W o, fun m => ?_⟩
  exact absurd (h.pr.sp.mine_lt _ ((S.Mine.congr (n1.block q h.pr.sp.lt)).1 m)) (Nat.lt_irrefl _)
theorem box_next {W W' : World} {q b : Nat} {o : Obj} (h : W.heap[b]? = some o) (hn : ¬ S.Mine W q b) (d : S.Did q W W') : W'.heap[b]? = some o ∧ ¬ S.Mine W' q b :=
  ⟨(d.block _ (heap_lt h) hn).trans h, fun m => (d.mine _ m).elim hn (fun x => by have := heap_lt h; omega)⟩
set_option maxRecDepth 100000 in
set_option maxHeartbeats 2000000 in
theorem ahead_any {w0 : World} {q : Nat} {t : List D → List UInt8} {y : List D} (hf : PrFn w0 q t y) (hs : ShE y) (hoy : opX y ≤ 24) {op n : Int} (hop : op ≤ 24) {nm fd : ByteArray} {a : Option Addr} {len c : Nat} {l : List (List D)} (hA : At w0 (.slice a len c) (.row l)) (hy : l[0]? = some y)
    {acc : List UInt8} {W : World} (h : PrI w0 q acc W) (hl : acc.length + (ahdP op t y).length ≤ 100000000) (hst : (sgnP op).t.size ≤ 100) :
    Calls Tryz.prog 94 #[prV q, .agg #[.int .i64 op, .int .i64 n, .string nm, .string fd, .slice a len c]] W (PrPost w0 q acc (ahdP op t y) W) := by
  have hln := hA.len_eq.1
  have h0l : 0 < l.length := (List.getElem?_eq_some_iff.1 hy).1
  obtain ⟨b, o, op1, n1, nm1, fd1, la1, ln1, lc1, rfl, hb, hv, c0, c1, c2, c3, c4⟩ := hA.elemE hy hs
  rw [show o + 0 * 5 = o by omega] at c0 c1 c2 c3 c4
  have F0 := Lib.hid (PF.start h op n nm fd (some ⟨b, o, none⟩) len c)
  have HS := Lib.hid (fun (U : World) (G : Gt U) => sgn_any G hop)
  unfold ahdP at hl ⊢
  have HO := Lib.hid (fun (asked : Nat) (acc' : List UInt8) (U : World) (p : PrI w0 q acc' U) (hh : acc'.length + (optP asked t y).length ≤ 100000000) => operand_any hf hs hoy hv asked p hh)
  have HC := Lib.hid (And.intro c0 (And.intro c1 (And.intro c2 (And.intro c3 c4))))
  generalize sgnP op = sg at HS hl hst ⊢
  obtain ⟨st, lv, lf, rt⟩ := sg
  dsimp only at hl hst ⊢
  unfold SgPost sgV at HS
  dsimp only at HS
  have HL := Lib.hid hl
  have hlen : (0 : Int) < (len : Int) := by omega
  have hlen2 : 0 < len := by omega
  generalize hz : optP rt t y = ty at HL ⊢
  have HZ := Lib.hid hz
  have HSZ := Lib.hid hst
  have HB := Lib.hid hb
  clear hv hs hop hoy h hf hA hy hl hz c0 c1 c2 c3 c4 hst h0l hln hb
  unfold prV
  go_enter Tryz.func94, Tryz.ntmps94
  go_wp2_with fail
  generalize (W.alloc (.cells #[.pointer (some ⟨q, 0, none⟩), .func (.func 27) #[] #[], .func (.func 28) #[] #[]] 99)).alloc (.cells #[.int .i64 op, .int .i64 n, .string nm, .string fd, .slice (some ⟨b, o, none⟩) len c] 25) = W0 at F0 ⊢
  have gp := box_cells F0.out.bp
  have ge := box_cells F0.out.be
  go_wp2_with fail
  refine (HS.out _ F0.out.pr.gtW).mono ?_
  rintro e w1 ⟨rfl, b1⟩
  have F1 := Lib.hid ((F0.out.below b1).sign (.cells #[.string st, .int .i64 (lv : Nat), .int .i64 (lf : Nat), .int .i64 (rt : Nat)] 103))
  have gp1 := box_cells F1.out.1.bp
  have ge1 := box_cells F1.out.1.be
  have gs1 := box_cells F1.out.2.1
  have hl1 : acc.length + (S.flat [st]).length ≤ 100000000 := by rw [flat1]; have := HL.out; simp only [List.length_append] at this; omega
  have P1 := Lib.hid (put_lit F1.out.1.pr [st] (one_le _ (Nat.le_trans HSZ.out (by decide))) (by show 1 ≤ 10; decide) hl1 (z := w1.heap.size + 1) (by simp))
  clear b1 gp ge hl1
  go_wp2_with fail
  refine P1.out.mono ?_
  rintro e w2 ⟨rfl, p2, e2⟩
  have F2 := Lib.hid (F1.out.1.next p2 e2)
  have Z2 := Lib.hid (box_next F1.out.2.1 F1.out.2.2 e2)
  have gp2 := box_cells F2.out.bp
  have ge2 := box_cells F2.out.be
  have gs2 := box_cells Z2.out.1
  have hl2 : (acc ++ S.flat [st]).length + (optP rt t y).length ≤ 100000000 := by rw [flat1, HZ.out]; have := HL.out; simp only [List.length_append] at this ⊢; omega
  have FD := Lib.hid (F2.out.below (below_drew0 (Below.refl w2.heap.size w2)))
  have P2 := Lib.hid (HO.out rt _ _ FD.out.pr hl2)
  have k0 : w2.cell? ⟨b, o, none⟩ = some (.int .i64 op1) := (F2.out.pr.lo.cell (p := ⟨b, o, none⟩) HB.out).trans HC.out.1
  have k1 : w2.cell? ⟨b, o + 1, none⟩ = some (.int .i64 n1) := (F2.out.pr.lo.cell (p := ⟨b, o + 1, none⟩) HB.out).trans HC.out.2.1
  have k2 : w2.cell? ⟨b, o + 2, none⟩ = some (.string nm1) := (F2.out.pr.lo.cell (p := ⟨b, o + 2, none⟩) HB.out).trans HC.out.2.2.1
  have k3 : w2.cell? ⟨b, o + 3, none⟩ = some (.string fd1) := (F2.out.pr.lo.cell (p := ⟨b, o + 3, none⟩) HB.out).trans HC.out.2.2.2.1
  have k4 : w2.cell? ⟨b, o + 4, none⟩ = some (.slice la1 ln1 lc1) := (F2.out.pr.lo.cell (p := ⟨b, o + 4, none⟩) HB.out).trans HC.out.2.2.2.2
  clear p2 e2 gp1 ge1 gs1 hl2 P1
  unfold prV at P2
  go_wp2_with fail
  go_still_tail 7, (by kernel_rfl)
  go_wp2_with fail
  refine P2.out.mono ?_
  rintro e w3 ⟨rfl, p3, e3⟩
  have P3 := Lib.hid p3
  have D3 := Lib.hid (FD.out.did.trans e3)
  clear p3 e3
  go_wp2_with fail
  go_end0
  exact PrPost.of P3.out (by rw [flat1, HZ.out]; simp) D3.out
end Go.Proofs.YtpcldpnaljheoaaGreatDoor
end
section
namespace Go.Proofs.YtpcldpnaljheoaaGreatDoor
open Go.RowKit Go.Deep

def btwP (op : Int) (t : List D → List UInt8) (y z : List D) : List UInt8 := optP (sgnP op).lf t y ++ (32 :: ((sgnP op).t.data.toList ++ 32 :: optP (sgnP op).rt t z))
theorem flat3 (x y z : ByteArray) : S.flat [x, y, z] = x.data.toList ++ (y.data.toList ++ z.data.toList) := by simp [S.flat]
theorem three_le (x y z : ByteArray) (h : x.size ≤ maxLen) (h' : y.size ≤ maxLen) (h'' : z.size ≤ maxLen) : ∀ u ∈ [x, y, z], u.size ≤ maxLen := fun u hu => by
  simp only [List.mem_cons, List.mem_nil_iff, or_false] at hu
  rcases hu with rfl | rfl | rfl
  · exact h
  · exact h'
  · exact h''
set_option maxRecDepth 100000 in
set_option maxHeartbeats 2000000 in
theorem between_any {w0 : World} {q : Nat} {t : List D → List UInt8} {y z : List D} (hf : PrFn w0 q t y) (hf' : PrFn w0 q t z) (hs : ShE y) (hs' : ShE z) (hoy : opX y ≤ 24) (hoz : opX z ≤ 24) {op n : Int} (hop : op ≤ 24) {nm fd : ByteArray} {a : Option Addr} {len c : Nat} {l : List (List D)} (hA : At w0 (.slice a len c) (.row l)) (hy : l[0]? = some y) (hz : l[1]? = some z)
    {acc : List UInt8} {W : World} (h : PrI w0 q acc W) (hl : acc.length + (btwP op t y z).length ≤ 100000000) (hst : (sgnP op).t.size ≤ 100) :
    Calls Tryz.prog 95 #[prV q, .agg #[.int .i64 op, .int .i64 n, .string nm, .string fd, .slice a len c]] W (PrPost w0 q acc (btwP op t y z) W) := by
  have hln := hA.len_eq.1
  have h0l : 1 < l.length := (List.getElem?_eq_some_iff.1 hz).1
  obtain ⟨b, o, op1, n1, nm1, fd1, la1, ln1, lc1, rfl, hb, hv, c0, c1, c2, c3, c4⟩ := hA.elemE hy hs
  obtain ⟨b', o', op2, n2, nm2, fd2, la2, ln2, lc2, e', _, hv', u0, u1, u2, u3, u4⟩ := hA.elemE hz hs'
  injection e' with e'
  injection e' with eb eo
  subst eb eo
  rw [show o + 0 * 5 = o by omega] at c0 c1 c2 c3 c4
  rw [show o + 1 * 5 = o + 5 by omega] at u0 u1 u2 u3 u4
  have F0 := Lib.hid (PF.start h op n nm fd (some ⟨b, o, none⟩) len c)
  have HS := Lib.hid (fun (U : World) (G : Gt U) => sgn_any G hop)
  unfold btwP at hl ⊢
  have HO := Lib.hid (fun (asked : Nat) (acc' : List UInt8) (U : World) (p : PrI w0 q acc' U) (hh : acc'.length + (optP asked t y).length ≤ 100000000) => operand_any hf hs hoy hv asked p hh)
  have HO' := Lib.hid (fun (asked : Nat) (acc' : List UInt8) (U : World) (p : PrI w0 q acc' U) (hh : acc'.length + (optP asked t z).length ≤ 100000000) => operand_any hf' hs' hoz hv' asked p hh)
  have HC := Lib.hid (And.intro c0 (And.intro c1 (And.intro c2 (And.intro c3 c4))))
  have HU := Lib.hid (And.intro u0 (And.intro u1 (And.intro u2 (And.intro u3 u4))))
  generalize sgnP op = sg at HS hl hst ⊢
  obtain ⟨st, lv, lf, rt⟩ := sg
  dsimp only at hl hst ⊢
  unfold SgPost sgV at HS
  dsimp only at HS
  have HL := Lib.hid hl
  have hlen : (0 : Int) < (len : Int) := by omega
  have hlen2 : 0 < len := by omega
  have hlen3 : (1 : Int) < (len : Int) := by omega
  have hlen4 : 1 < len := by omega
  generalize hzy : optP lf t y = ty at HL ⊢
  generalize hzz : optP rt t z = tz at HL ⊢
  have HZ := Lib.hid hzy
  have HZ' := Lib.hid hzz
  have HSZ := Lib.hid hst
  have HB := Lib.hid hb
  clear hv hv' hs hs' hop hoy hoz h hf hf' hA hy hz hl hzy hzz c0 c1 c2 c3 c4 u0 u1 u2 u3 u4 hst h0l hln hb
  unfold prV
  go_enter Tryz.func95, Tryz.ntmps95
  go_wp2_with fail
  generalize (W.alloc (.cells #[.pointer (some ⟨q, 0, none⟩), .func (.func 27) #[] #[], .func (.func 28) #[] #[]] 99)).alloc (.cells #[.int .i64 op, .int .i64 n, .string nm, .string fd, .slice (some ⟨b, o, none⟩) len c] 25) = W0 at F0 ⊢
  have gp := box_cells F0.out.bp
  have ge := box_cells F0.out.be
  go_wp2_with fail
  refine (HS.out _ F0.out.pr.gtW).mono ?_
  rintro e w1 ⟨rfl, b1⟩
  have F1 := Lib.hid ((F0.out.below b1).sign (.cells #[.string st, .int .i64 (lv : Nat), .int .i64 (lf : Nat), .int .i64 (rt : Nat)] 103))
  clear b1 gp ge
  go_wp2_with fail
  generalize hW1 : w1.alloc (.cells #[.string st, .int .i64 (lv : Nat), .int .i64 (lf : Nat), .int .i64 (rt : Nat)] 103) = W1 at F1 ⊢
  clear hW1
  have gp1 := box_cells F1.out.1.bp
  have ge1 := box_cells F1.out.1.be
  have gs1 := box_cells F1.out.2.1
  have hl1 : acc.length + (optP lf t y).length ≤ 100000000 := by rw [HZ.out]; have := HL.out; simp only [List.length_append] at this; omega
  have FD := Lib.hid (F1.out.1.below (below_drew0 (Below.refl W1.heap.size W1)))
  have DD := Lib.hid (S.Did.below F1.out.1.pr.sp.lt (below_drew0 (Below.refl W1.heap.size W1)))
  have P1 := Lib.hid (HO.out lf _ _ FD.out.pr hl1)
  have k0 : W1.cell? ⟨b, o, none⟩ = some (.int .i64 op1) := (F1.out.1.pr.lo.cell (p := ⟨b, o, none⟩) HB.out).trans HC.out.1
  have k1 : W1.cell? ⟨b, o + 1, none⟩ = some (.int .i64 n1) := (F1.out.1.pr.lo.cell (p := ⟨b, o + 1, none⟩) HB.out).trans HC.out.2.1
  have k2 : W1.cell? ⟨b, o + 2, none⟩ = some (.string nm1) := (F1.out.1.pr.lo.cell (p := ⟨b, o + 2, none⟩) HB.out).trans HC.out.2.2.1
  have k3 : W1.cell? ⟨b, o + 3, none⟩ = some (.string fd1) := (F1.out.1.pr.lo.cell (p := ⟨b, o + 3, none⟩) HB.out).trans HC.out.2.2.2.1
  have k4 : W1.cell? ⟨b, o + 4, none⟩ = some (.slice la1 ln1 lc1) := (F1.out.1.pr.lo.cell (p := ⟨b, o + 4, none⟩) HB.out).trans HC.out.2.2.2.2
  unfold prV at P1
  clear hl1
  go_still_tail 7, (by kernel_rfl)
  go_wp2_with fail
  refine P1.out.mono ?_
  rintro e w2 ⟨rfl, p2, e2⟩
  have F2 := Lib.hid (FD.out.next p2 e2)
  have Z2 := Lib.hid (box_next F1.out.2.1 F1.out.2.2 (DD.out.trans e2))
  have gp2 := box_cells F2.out.bp
  have ge2 := box_cells F2.out.be
  have gs2 := box_cells Z2.out.1
  have hl2 : (acc ++ optP lf t y).length + (S.flat [⟨#[32]⟩, st, ⟨#[32]⟩]).length ≤ 100000000 := by rw [flat3, HZ.out]; have := HL.out; simp at this ⊢; omega
  have P2 := Lib.hid (put_lit F2.out.pr [⟨#[32]⟩, st, ⟨#[32]⟩] (three_le _ _ _ (by decide) (Nat.le_trans HSZ.out (by decide)) (by decide)) (by show 3 ≤ 10; decide) hl2 rfl)
  clear p2 e2 gp1 ge1 gs1 hl2 P1 k0 k1 k2 k3 k4
  go_wp2_with fail
  refine P2.out.mono ?_
  rintro e w3 ⟨rfl, p3, e3⟩
  have F3 := Lib.hid (F2.out.next p3 e3)
  have Z3 := Lib.hid (box_next Z2.out.1 Z2.out.2 e3)
  have gp3 := box_cells F3.out.bp
  have ge3 := box_cells F3.out.be
  have gs3 := box_cells Z3.out.1
  have hl3 : (acc ++ optP lf t y ++ S.flat [⟨#[32]⟩, st, ⟨#[32]⟩]).length + (optP rt t z).length ≤ 100000000 := by rw [flat3, HZ.out, HZ'.out]; have := HL.out; simp at this ⊢; omega
  have FE := Lib.hid (F3.out.below (below_drew0 (Below.refl w3.heap.size w3)))
  have P3 := Lib.hid (HO'.out rt _ _ FE.out.pr hl3)
  have k0 : w3.cell? ⟨b, o + 5, none⟩ = some (.int .i64 op2) := (F3.out.pr.lo.cell (p := ⟨b, o + 5, none⟩) HB.out).trans HU.out.1
  have k1 : w3.cell? ⟨b, o + 5 + 1, none⟩ = some (.int .i64 n2) := (F3.out.pr.lo.cell (p := ⟨b, o + 5 + 1, none⟩) HB.out).trans HU.out.2.1
  have k2 : w3.cell? ⟨b, o + 5 + 2, none⟩ = some (.string nm2) := (F3.out.pr.lo.cell (p := ⟨b, o + 5 + 2, none⟩) HB.out).trans HU.out.2.2.1
  have k3 : w3.cell? ⟨b, o + 5 + 3, none⟩ = some (.string fd2) := (F3.out.pr.lo.cell (p := ⟨b, o + 5 + 3, none⟩) HB.out).trans HU.out.2.2.2.1
  have k4 : w3.cell? ⟨b, o + 5 + 4, none⟩ = some (.slice la2 ln2 lc2) := (F3.out.pr.lo.cell (p := ⟨b, o + 5 + 4, none⟩) HB.out).trans HU.out.2.2.2.2
  unfold prV at P3
  clear p3 e3 gp2 ge2 gs2 hl3 P2
  go_wp2_with fail
  go_still_tail 7, (by kernel_rfl)
  go_wp2_with fail
  refine P3.out.mono ?_
  rintro e w4 ⟨rfl, p4, e4⟩
  have P4 := Lib.hid p4
  have D4 := Lib.hid (FE.out.did.trans e4)
  clear p4 e4
  go_wp2_with fail
  go_end0
  exact PrPost.of P4.out (by rw [flat3, HZ.out, HZ'.out]; simp) D4.out
end Go.Proofs.YtpcldpnaljheoaaGreatDoor
end
section
namespace Go.Proofs.YtpcldpnaljheoaaGreatDoor
open Go.RowKit Go.Deep

set_option maxRecDepth 100000 in
set_option maxHeartbeats 2000000 in
theorem pr_var {w0 : World} {q : Nat} {n : Int} {nm fd : ByteArray} {a : Option Addr} {len c : Nat} (hnm : nm.size ≤ maxLen) {acc : List UInt8} {W : World} (h : PrI w0 q acc W) (hl : acc.length + nm.data.toList.length ≤ 100000000) :
    Calls Tryz.prog 51 #[prV q, .agg #[.int .i64 4, .int .i64 n, .string nm, .string fd, .slice a len c]] W (PrPost w0 q acc nm.data.toList W) := by
  have F0 := Lib.hid (PF.start h 4 n nm fd a len c)
  have HL := Lib.hid hl
  have HN := Lib.hid hnm
  clear h hl hnm
  unfold prV
  have HZ := Lib.hid (show ((W.alloc (.cells #[.pointer (some ⟨q, 0, none⟩), .func (.func 27) #[] #[], .func (.func 28) #[] #[]] 99)).alloc (.cells #[.int .i64 4, .int .i64 n, .string nm, .string fd, .slice a len c] 25)).heap.size = W.heap.size + 1 + 1 by simp)
  go_enter Tryz.func51, Tryz.ntmps51
  go_wp2_with fail
  generalize (W.alloc (.cells #[.pointer (some ⟨q, 0, none⟩), .func (.func 27) #[] #[], .func (.func 28) #[] #[]] 99)).alloc (.cells #[.int .i64 4, .int .i64 n, .string nm, .string fd, .slice a len c] 25) = W0 at F0 HZ ⊢
  have hl1 : acc.length + (S.flat [nm]).length ≤ 100000000 := by rw [flat1]; exact HL.out
  have P1 := Lib.hid (put_lit F0.out.pr [nm] (one_le _ HN.out) (by show 1 ≤ 10; decide) hl1 HZ.out)
  clear hl1
  refine P1.out.mono ?_
  rintro e w1 ⟨rfl, p1, e1⟩
  have P2 := Lib.hid p1
  have D2 := Lib.hid (F0.out.did.trans e1)
  clear p1 e1
  go_wp2_with fail
  go_end0
  exact PrPost.of P2.out (by rw [flat1]) D2.out
set_option maxRecDepth 100000 in
set_option maxHeartbeats 2000000 in
theorem pr_ahead {w0 : World} {q : Nat} {t : List UInt8} {op n : Int} (hop : op = 8 ∨ op = 9) {nm fd : ByteArray} {a : Option Addr} {len c : Nat} {acc : List UInt8} {W : World} (h : PrI w0 q acc W)
    (hA : ∀ U, PrI w0 q acc U → Calls Tryz.prog 94 #[prV q, .agg #[.int .i64 op, .int .i64 n, .string nm, .string fd, .slice a len c]] U (PrPost w0 q acc t U)) :
    Calls Tryz.prog 51 #[prV q, .agg #[.int .i64 op, .int .i64 n, .string nm, .string fd, .slice a len c]] W (PrPost w0 q acc t W) := by
  have F0 := Lib.hid (PF.start h op n nm fd a len c)
  have HA := Lib.hid hA
  unfold prV at HA ⊢
  clear h hA
  rcases hop with rfl | rfl
  all_goals
    go_enter Tryz.func51, Tryz.ntmps51
    go_wp2_with fail
    generalize (W.alloc (.cells #[.pointer (some ⟨q, 0, none⟩), .func (.func 27) #[] #[], .func (.func 28) #[] #[]] 99)).alloc (.cells #[.int .i64 _, .int .i64 n, .string nm, .string fd, .slice a len c] 25) = W0 at F0 ⊢
    have gp := box_cells F0.out.bp
    have ge := box_cells F0.out.be
    go_wp2_with fail
    refine (HA.out _ F0.out.pr).mono ?_
    rintro e w1 ⟨rfl, p1, e1⟩
    have P2 := Lib.hid p1
    have D2 := Lib.hid (F0.out.did.trans e1)
    clear p1 e1
    go_wp2_with fail
    go_end0
    exact ⟨rfl, P2.out, D2.out⟩
set_option maxRecDepth 100000 in
set_option maxHeartbeats 2000000 in
theorem pr_between {w0 : World} {q : Nat} {t : List UInt8} {op n : Int} (hop : 10 ≤ op ∧ op ≤ 24) {nm fd : ByteArray} {a : Option Addr} {len c : Nat} {acc : List UInt8} {W : World} (h : PrI w0 q acc W)
    (hA : ∀ U, PrI w0 q acc U → Calls Tryz.prog 95 #[prV q, .agg #[.int .i64 op, .int .i64 n, .string nm, .string fd, .slice a len c]] U (PrPost w0 q acc t U)) :
    Calls Tryz.prog 51 #[prV q, .agg #[.int .i64 op, .int .i64 n, .string nm, .string fd, .slice a len c]] W (PrPost w0 q acc t W) := by
  have F0 := Lib.hid (PF.start h op n nm fd a len c)
  have HA := Lib.hid hA
  unfold prV at HA ⊢
  have d1 : (op == 1) = false := by simp; omega
  have d2 : (op == 2) = false := by simp; omega
  have d3 : (op == 3) = false := by simp; omega
  have d4 : (op == 4) = false := by simp; omega
  have d5 : (op == 5) = false := by simp; omega
  have d6 : (op == 6) = false := by simp; omega
  have d7 : (op == 7) = false := by simp; omega
  have d8 : (op == 8) = false := by simp; omega
  have d9 : (op == 9) = false := by simp; omega
  have d25 : (op == 25) = false := by simp; omega
  clear h hA hop
  go_enter Tryz.func51, Tryz.ntmps51
  go_wp2_with fail
  generalize (W.alloc (.cells #[.pointer (some ⟨q, 0, none⟩), .func (.func 27) #[] #[], .func (.func 28) #[] #[]] 99)).alloc (.cells #[.int .i64 op, .int .i64 n, .string nm, .string fd, .slice a len c] 25) = W0 at F0 ⊢
  have gp := box_cells F0.out.bp
  have ge := box_cells F0.out.be
  go_wp2_with fail
  refine (HA.out _ F0.out.pr).mono ?_
  rintro e w1 ⟨rfl, p1, e1⟩
  have P2 := Lib.hid p1
  have D2 := Lib.hid (F0.out.did.trans e1)
  clear p1 e1
  go_wp2_with fail
  go_end0
  exact ⟨rfl, P2.out, D2.out⟩
end Go.Proofs.YtpcldpnaljheoaaGreatDoor
end
