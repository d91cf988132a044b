/-
  The scanner's readers of a name, a char and a sign, walked.
-/
import Derived.Test.YtjdmaindoohmkaaDoorPSd
namespace Go.Proofs.YtjdmaindoohmkaaDoor.P
open Go.RowKit Go.Sort

theorem ba_len (l : List UInt8) : (ByteArray.mk l.toArray).size = l.length := by
  have := len_size (ByteArray.mk l.toArray)
  simpa using this.symm
/-- What a reader leaves that makes memory alone. -/
def TokB (f : Fd) (w : World) (e : Ending) (w' : World) : Prop := e = .returned (.tuple #[tokV f, .int .i64 (f.err : Nat)]) ∧ Below w.heap.size w w'
theorem set7_below {w w1 : World} {b : Nat} (hb : w.heap.size ≤ b) (ho : Below w.heap.size w w1) (v0 v1 v2 v3 v4 v5 v6 : Value) : Below w.heap.size w (set7 w1 b v0 v1 v2 v3 v4 v5 v6) :=
  ((((((ho.setCell hb v0).setCell hb v1).setCell hb v2).setCell hb v3).setCell hb v4).setCell hb v5).setCell hb v6
theorem post7b {w w1 : World} {b : Nat} {f : Fd} (hb : w.heap.size ≤ b) (ho : Below w.heap.size w w1) (v0 v1 v2 v3 v4 v5 v6 : Value) :
    TokB f w (.returned (.tuple #[tokV f, .int .i64 (f.err : Nat)])) (set7 w1 b v0 v1 v2 v3 v4 v5 v6) := ⟨rfl, set7_below hb ho _ _ _ _ _ _ _⟩
theorem nameL_long (nm : List UInt8) (h : 32 < nm.length) : nameL nm = bad 3 := by unfold nameL; rw [if_pos h]
theorem nameL_word (nm : List UInt8) (h : ¬ 32 < nm.length) (hw : isIn ⟨(nm.map Lib.lowerB).toArray⟩ (wordsOf 0) = true) : nameL nm = ⟨2, nm.map Lib.lowerB, 0, nm.length, 0⟩ := by unfold nameL nameK; rw [if_neg h, if_pos hw]
theorem nameL_name (nm : List UInt8) (h : ¬ 32 < nm.length) (hw : isIn ⟨(nm.map Lib.lowerB).toArray⟩ (wordsOf 0) = false) : nameL nm = ⟨1, nm.map Lib.lowerB, 0, nm.length, 0⟩ := by unfold nameL nameK; rw [if_neg h, hw, if_neg (by decide)]
theorem nameP_long {ps : List ByteArray} (h : ps.any longB = true) (d : Int) : nameP ps d = bad 3 := by unfold nameP; rw [if_pos h]
theorem nameP_word {ps : List ByteArray} {d : Int} (h : ps.any longB = false) (hw : isIn ⟨(joinP ps).toArray⟩ (wordsOf d) = true) : nameP ps d = ⟨2, joinP ps, 0, (joinP ps).length, 0⟩ := by unfold nameP; rw [h, if_neg (by decide), if_pos hw]
theorem nameP_name {ps : List ByteArray} {d : Int} (h : ps.any longB = false) (hw : isIn ⟨(joinP ps).toArray⟩ (wordsOf d) = false) : nameP ps d = ⟨1, joinP ps, 0, (joinP ps).length, 0⟩ := by unfold nameP; rw [h, if_neg (by decide), hw, if_neg (by decide)]
theorem any_take {ps : List ByteArray} {k : Nat} {x : ByteArray} (hx : ps[k]? = some x) (h : (ps.take k).any longB = false) (hl : longB x = false) : (ps.take (k + 1)).any longB = false := by
  rw [List.take_add_one, hx, List.any_append, h]; simpa using hl
theorem any_hit {ps : List ByteArray} {k : Nat} {x : ByteArray} (hx : ps[k]? = some x) (hl : longB x = true) : ps.any longB = true := by
  rw [List.any_eq_true]; exact ⟨x, List.mem_of_getElem? hx, hl⟩
set_option maxHeartbeats 2000000 in
theorem name_tok (p c k : Nat) (s : ByteArray) (ps : List ByteArray) (a : Option Addr) (len cap : Nat) (w : World) (h : ScAt w p c s k) (hS : IsStrs w a len cap ps) (hn : 0 < len) (hlen : len ≤ 1000000) (hl : (joinP ps).length ≤ 1000000) :
    Calls Tryd.prog 36 #[.pointer (some ⟨p, 0, none⟩), .slice a len cap] w (TokB (nameP ps 0) w) := by
  have hlt := h.lt
  have H := Lib.hid h
  have HS := Lib.hid hS
  have hcap := hS.len_le
  clear h hS
  generalize hf : nameP ps 0 = f
  have HF := Lib.hid hf
  clear hf
  go_enter Tryd.func36, Tryd.ntmps36
  go_wp2_with fail
  have Z := Lib.hid (TokZ.new w)
  have B := Lib.hid (show Below w.heap.size w (w.alloc (.cells #[.int .i64 0, .string ⟨#[]⟩, .int .i64 0, .bool false, .int .i64 0, .int .i64 0, .int .i64 0] 38)) from (Below.refl _ _).alloc (Nat.le_refl _) _)
  have H0 := Lib.hid (H.out.alloc (.cells #[.int .i64 0, .string ⟨#[]⟩, .int .i64 0, .bool false, .int .i64 0, .int .i64 0, .int .i64 0] 38))
  have S0 := Lib.hid (HS.out.below B.out)
  generalize w.alloc (.cells #[.int .i64 0, .string ⟨#[]⟩, .int .i64 0, .bool false, .int .i64 0, .int .i64 0, .int .i64 0] 38) = w0 at Z B H0 S0 ⊢
  have h1 := H0.out.c1
  clear H HS
  go_loop [11] (fun i => ∃ k : Nat, k ≤ len ∧ i = .int .i64 k ∧ (ps.take k).any longB = false) (fun i => len - (intOf i).toNat)
  case atStart => exact ⟨0, Nat.zero_le _, rfl, rfl⟩
  case round =>
    obtain ⟨k, hk, rfl, hno⟩ := hrel
    have HN := Lib.hid hno
    clear hno
    by_cases hlt2 : k < len
    · obtain ⟨b, o, x, rfl, hx, hxs, hc⟩ := S0.out.at hlt2
      have HX := Lib.hid hx
      clear hx
      cases hb : longB x with
      | true =>
        have d1 : decide ((32 : Int) < (x.size : Int)) = true := by unfold longB at hb; simp at hb ⊢; omega
        obtain rfl : f = bad 3 := by rw [← HF.out]; exact nameP_long (any_hit HX.out hb) 0
        obtain ⟨g0, g1, g2, g3, g4, g5, g6, gf⟩ := Z.out.facts
        clear hb h1
        go_wp2_with fail
        exact bodyPost_ret (v := .tuple #[tokV (bad 3), .int .i64 3]) (by simp [results, Tryd.results36, go_sem, tokV, bad, g0, g1, g2, g3, g4, g5, g6]) rfl (post7b (f := bad 3) (Nat.le_refl _) B.out _ _ _ _ _ _ _)
      | false =>
        have d1 : decide ((32 : Int) < (x.size : Int)) = false := by unfold longB at hb; simp at hb ⊢; omega
        have HT := Lib.hid (any_take HX.out HN.out hb)
        clear hb h1
        go_wp2_with fail
        go_round
        case rel => exact ⟨k + 1, by omega, by go_num, HT.out⟩
        case measure => simp [intOf]; omega
    · have hno : ps.any longB = false := by rw [← HN.out, List.take_of_length_le (by rw [S0.out.1]; omega)]
      obtain ⟨bk, o, hA, hbk, hcells⟩ : ∃ bk o, a = some ⟨bk, o, none⟩ ∧ bk < w0.heap.size ∧ ∀ j x, ps[j]? = some x → w0.cell? ⟨bk, o + j, none⟩ = some (.string x) := by
        rcases S0.out.2.2.2.2 with h00 | ⟨b, o, e1, e2, e3⟩
        · omega
        · exact ⟨b, o, e1, e2, e3⟩
      have hz := S0.out.1
      have hcl := S0.out.2.1
      subst hA
      subst hz
      have hJ := Tryd.strings_Join bk o cap ps ⟨#[36]⟩ w0 hcells hbk (by omega) hcl (by show (joinP ps).length ≤ _; omega)
      have HJ := Lib.hid (show Calls Tryd.prog 59 #[.slice (some ⟨bk, o, none⟩) ps.length cap, .string ⟨#[36]⟩] w0 fun e w' => e = .returned (.string ⟨(joinP ps).toArray⟩) ∧ Below w0.heap.size w0 w' from hJ)
      have hjz : (ByteArray.mk (joinP ps).toArray).size = (joinP ps).length := ba_len _
      have hI := fun w1 => is_any 0 ⟨(joinP ps).toArray⟩ w1
      clear hJ hcells hbk h1
      cases hw : isIn ⟨(joinP ps).toArray⟩ (wordsOf 0) with
      | true =>
        rw [hw] at hI
        have HI := Lib.hid hI
        obtain rfl : f = ⟨2, joinP ps, 0, (joinP ps).length, 0⟩ := by rw [← HF.out]; exact nameP_word hno hw
        clear hI hw hno
        obtain ⟨t, ht⟩ : ∃ t, t = (ByteArray.mk (joinP ps).toArray) := ⟨_, rfl⟩
        rw [← ht] at HI HJ hjz
        have HT := Lib.hid ht
        clear ht
        go_wp2_with fail
        refine HJ.out.mono ?_
        rintro e w1 ⟨rfl, b1⟩
        have B1 := Lib.hid (B.out.trans (b1.mono B.out.size))
        have Z1 := Lib.hid (Z.out.below b1)
        have H1 := Lib.hid (H0.out.below b1)
        have h11 := H1.out.c1
        clear b1
        go_wp2_with fail
        refine (HI.out _).mono ?_
        rintro e w2 ⟨rfl, b2⟩
        have B2 := Lib.hid (B1.out.trans (b2.mono B1.out.size))
        have Z2 := Lib.hid (Z1.out.below b2)
        obtain ⟨g0, g1, g2, g3, g4, g5, g6, gf⟩ := Z2.out.facts
        clear b2 h11
        go_wp2_with fail
        exact bodyPost_ret (v := .tuple #[tokV ⟨2, joinP ps, 0, (joinP ps).length, 0⟩, .int .i64 0]) (by rw [HT.out]; simp [results, Tryd.results36, go_sem, tokV, g0, g1, g2, g3, g4, g5, g6]) rfl (post7b (f := ⟨2, joinP ps, 0, (joinP ps).length, 0⟩) (Nat.le_refl _) B2.out _ _ _ _ _ _ _)
      | false =>
        rw [hw] at hI
        have HI := Lib.hid hI
        obtain rfl : f = ⟨1, joinP ps, 0, (joinP ps).length, 0⟩ := by rw [← HF.out]; exact nameP_name hno hw
        clear hI hw hno
        obtain ⟨t, ht⟩ : ∃ t, t = (ByteArray.mk (joinP ps).toArray) := ⟨_, rfl⟩
        rw [← ht] at HI HJ hjz
        have HT := Lib.hid ht
        clear ht
        go_wp2_with fail
        refine HJ.out.mono ?_
        rintro e w1 ⟨rfl, b1⟩
        have B1 := Lib.hid (B.out.trans (b1.mono B.out.size))
        have Z1 := Lib.hid (Z.out.below b1)
        have H1 := Lib.hid (H0.out.below b1)
        have h11 := H1.out.c1
        clear b1
        go_wp2_with fail
        refine (HI.out _).mono ?_
        rintro e w2 ⟨rfl, b2⟩
        have B2 := Lib.hid (B1.out.trans (b2.mono B1.out.size))
        have Z2 := Lib.hid (Z1.out.below b2)
        obtain ⟨g0, g1, g2, g3, g4, g5, g6, gf⟩ := Z2.out.facts
        clear b2 h11
        go_wp2_with fail
        exact bodyPost_ret (v := .tuple #[tokV ⟨1, joinP ps, 0, (joinP ps).length, 0⟩, .int .i64 0]) (by rw [HT.out]; simp [results, Tryd.results36, go_sem, tokV, g0, g1, g2, g3, g4, g5, g6]) rfl (post7b (f := ⟨1, joinP ps, 0, (joinP ps).length, 0⟩) (Nat.le_refl _) B2.out _ _ _ _ _ _ _)
theorem bt_out (s : ByteArray) (k : Nat) (h : s.size ≤ k) : bt s k = 0 := by
  unfold bt
  rw [List.getD_eq_getElem?_getD, List.getElem?_eq_none (by rw [len_size]; exact h)]; rfl
theorem peek_bt (b k i : Nat) (s : ByteArray) (w : World) (hc : CurAt w b s k) (hs : s.size ≤ maxLen) :
    Calls Tryd.prog 52 #[.pointer (some ⟨b, 0, none⟩), .int .i64 (i : Int)] w fun e w' => e = .returned (.tuple #[.int .u8 (bt s (k + i)).toNat, .bool (decide (k + i < s.size))]) ∧ ∃ n, w' = w.drewN n := by
  have hle := hc.le
  by_cases h : k + i < s.size
  · have := peek_in b k (i : Int) s w hc.c0 hc.c1 hs hc.le (by omega) (by omega)
    rw [Int.toNat_natCast] at this
    rw [decide_eq_true h]
    exact this
  · have := peek_out b k (i : Int) s w hc.c0 hc.c1 hs hc.le (by omega) (by omega)
    rw [decide_eq_false h, bt_out s (k + i) (by omega)]
    exact this
theorem getD_drop (s : ByteArray) (k i : Nat) : (s.data.toList.drop k).getD i 0 = bt s (k + i) := by
  unfold bt
  simp [List.getD_eq_getElem?_getD]
/-- A char between quotes. -/
def quote1 (s : ByteArray) (k : Nat) : Fd := if (visB (bt s (k + 1)) && bt s (k + 2) == 39) = true then ⟨4, [], (bt s (k + 1)).toNat, 3, 0⟩ else bad 7
theorem q39 (c : UInt8) : (ByteArray.mk #[39]).data.toList.contains c = (c == 39) := by simp [Bool.beq_eq_decide_eq]
theorem q39' (c : UInt8) : ((ByteArray.mk #[39]) ++ (ByteArray.mk #[])).data.toList.contains c = (c == 39) := by
  rw [show (ByteArray.mk #[39]) ++ (ByteArray.mk #[]) = ByteArray.mk #[39] from rfl]; exact q39 c
set_option maxHeartbeats 2000000 in
theorem quoted1_tok (p c k : Nat) (s : ByteArray) (w : World) (h : ScAt w p c s k) (hs : s.size ≤ maxLen) :
    Calls Tryd.prog 69 #[.pointer (some ⟨p, 0, none⟩), .string ⟨#[]⟩] w (TokPost c s k (quote1 s k) w) := by
  have h0 := h.c0
  have hcl := h.cur.lt
  have C := Lib.hid h.cur
  have hpl := h.lt
  have H := Lib.hid h
  have P1 := Lib.hid fun w1 hc => peek_bt c k 1 s w1 hc hs
  have P2 := Lib.hid fun w1 hc => peek_bt c k 2 s w1 hc hs
  have O1 := fun w1 => oneOf_any ⟨#[39]⟩ (bt s (k + 1)) w1
  have O2 := fun w1 => oneOf_any ⟨#[39]⟩ (bt s (k + 2)) w1
  rw [q39] at O1 O2
  clear h
  by_cases h1 : (bt s (k + 1)).toNat < 32
  · have F : quote1 s k = bad 7 := by unfold quote1 visB; rw [decide_eq_false (show ¬ 32 ≤ (bt s (k + 1)).toNat by omega)]; rfl
    rw [F]
    have d1 : decide (((bt s (k + 1)).toNat : Int) < 32) = true := by simp; omega
    clear F
    have HO1 := Lib.hid O1
    have HO2 := Lib.hid O2
    clear O1 O2
    go_enter Tryd.func69, Tryd.ntmps69
    go_wp2_with fail
    refine (P1.out _ (H.out.alloc _).cur).mono ?_
    have h0' := (H.out.alloc (.cells #[.int .i64 0, .string ⟨#[]⟩, .int .i64 0, .bool false, .int .i64 0, .int .i64 0, .int .i64 0] 38)).c0
    have Z := Lib.hid (TokZ.new w)
    have B := Lib.hid (show Below w.heap.size w (w.alloc (.cells #[.int .i64 0, .string ⟨#[]⟩, .int .i64 0, .bool false, .int .i64 0, .int .i64 0, .int .i64 0] 38)) from (Below.refl _ _).alloc (Nat.le_refl _) _)
    have CU := Lib.hid (H.out.alloc (.cells #[.int .i64 0, .string ⟨#[]⟩, .int .i64 0, .bool false, .int .i64 0, .int .i64 0, .int .i64 0] 38)).cur
    generalize w.alloc (.cells #[.int .i64 0, .string ⟨#[]⟩, .int .i64 0, .bool false, .int .i64 0, .int .i64 0, .int .i64 0] 38) = w0 at Z B CU h0'
    rintro e w1 ⟨rfl, n1, rfl⟩
    clear h0
    go_wp2_with fail
    refine (P2.out _ (CU.out.drewN n1)).mono ?_
    rintro e w2 ⟨rfl, n2, hw2⟩
    have h02 : w2.cell? ⟨p, 0, none⟩ = some (.pointer (some ⟨c, 0, none⟩)) := by rw [hw2]; exact h0'
    have Z2 := Lib.hid (show TokZ w2 w.heap.size by rw [hw2]; exact ⟨Z.out.blk⟩)
    have CU2 := Lib.hid (show CurAt w2 c s k by rw [hw2]; exact (CU.out.drewN n1).drewN n2)
    have OO := Lib.hid (show Only c w w2 by rw [hw2]; exact (((Only.refl c w0).drewN n1).drewN n2).from B.out)
    obtain ⟨g0, g1, g2, g3, g4, g5, g6, gf⟩ := Z2.out.facts
    clear hw2 Z CU h0' B
    go_wp2_with fail
    exact bodyPost_ret (v := .tuple #[tokV (bad 7), .int .i64 7]) (by simp [results, Tryd.results69, go_sem, tokV, bad, g0, g1, g2, g3, g4, g5, g6]) rfl (post7 (f := bad 7) (Nat.le_refl _) (by omega) OO.out (fun h => by cases h) _ _ _ _ _ _ _)
  · have d1 : decide (((bt s (k + 1)).toNat : Int) < 32) = false := by simp; omega
    by_cases h2 : 126 < (bt s (k + 1)).toNat
    · have F : quote1 s k = bad 7 := by unfold quote1 visB; rw [decide_eq_false (show ¬ (bt s (k + 1)).toNat ≤ 126 by omega)]; simp
      rw [F]
      have d2 : decide ((126 : Int) < ((bt s (k + 1)).toNat : Int)) = true := by simp; omega
      clear F
      have HO1 := Lib.hid O1
      have HO2 := Lib.hid O2
      clear O1 O2
      go_enter Tryd.func69, Tryd.ntmps69
      go_wp2_with fail
      refine (P1.out _ (H.out.alloc _).cur).mono ?_
      have h0' := (H.out.alloc (.cells #[.int .i64 0, .string ⟨#[]⟩, .int .i64 0, .bool false, .int .i64 0, .int .i64 0, .int .i64 0] 38)).c0
      have Z := Lib.hid (TokZ.new w)
      have B := Lib.hid (show Below w.heap.size w (w.alloc (.cells #[.int .i64 0, .string ⟨#[]⟩, .int .i64 0, .bool false, .int .i64 0, .int .i64 0, .int .i64 0] 38)) from (Below.refl _ _).alloc (Nat.le_refl _) _)
      have CU := Lib.hid (H.out.alloc (.cells #[.int .i64 0, .string ⟨#[]⟩, .int .i64 0, .bool false, .int .i64 0, .int .i64 0, .int .i64 0] 38)).cur
      generalize w.alloc (.cells #[.int .i64 0, .string ⟨#[]⟩, .int .i64 0, .bool false, .int .i64 0, .int .i64 0, .int .i64 0] 38) = w0 at Z B CU h0'
      rintro e w1 ⟨rfl, n1, rfl⟩
      clear h0
      go_wp2_with fail
      refine (P2.out _ (CU.out.drewN n1)).mono ?_
      rintro e w2 ⟨rfl, n2, hw2⟩
      have h02 : w2.cell? ⟨p, 0, none⟩ = some (.pointer (some ⟨c, 0, none⟩)) := by rw [hw2]; exact h0'
      have Z2 := Lib.hid (show TokZ w2 w.heap.size by rw [hw2]; exact ⟨Z.out.blk⟩)
      have CU2 := Lib.hid (show CurAt w2 c s k by rw [hw2]; exact (CU.out.drewN n1).drewN n2)
      have OO := Lib.hid (show Only c w w2 by rw [hw2]; exact (((Only.refl c w0).drewN n1).drewN n2).from B.out)
      obtain ⟨g0, g1, g2, g3, g4, g5, g6, gf⟩ := Z2.out.facts
      clear hw2 Z CU h0' B
      go_wp2_with fail
      exact bodyPost_ret (v := .tuple #[tokV (bad 7), .int .i64 7]) (by simp [results, Tryd.results69, go_sem, tokV, bad, g0, g1, g2, g3, g4, g5, g6]) rfl (post7 (f := bad 7) (Nat.le_refl _) (by omega) OO.out (fun h => by cases h) _ _ _ _ _ _ _)
    · have d2 : decide ((126 : Int) < ((bt s (k + 1)).toNat : Int)) = false := by simp; omega
      cases h3 : bt s (k + 1) == 39 with
      | true =>
        have F : quote1 s k = bad 7 := by unfold quote1 visB; rw [h3]; simp
        rw [F]
        rw [h3] at O1
        clear F
        have HO1 := Lib.hid O1
        have HO2 := Lib.hid O2
        clear O1 O2
        go_enter Tryd.func69, Tryd.ntmps69
        go_wp2_with fail
        refine (P1.out _ (H.out.alloc _).cur).mono ?_
        have h0' := (H.out.alloc (.cells #[.int .i64 0, .string ⟨#[]⟩, .int .i64 0, .bool false, .int .i64 0, .int .i64 0, .int .i64 0] 38)).c0
        have Z := Lib.hid (TokZ.new w)
        have B := Lib.hid (show Below w.heap.size w (w.alloc (.cells #[.int .i64 0, .string ⟨#[]⟩, .int .i64 0, .bool false, .int .i64 0, .int .i64 0, .int .i64 0] 38)) from (Below.refl _ _).alloc (Nat.le_refl _) _)
        have CU := Lib.hid (H.out.alloc (.cells #[.int .i64 0, .string ⟨#[]⟩, .int .i64 0, .bool false, .int .i64 0, .int .i64 0, .int .i64 0] 38)).cur
        generalize w.alloc (.cells #[.int .i64 0, .string ⟨#[]⟩, .int .i64 0, .bool false, .int .i64 0, .int .i64 0, .int .i64 0] 38) = w0 at Z B CU h0'
        rintro e w1 ⟨rfl, n1, rfl⟩
        clear h0
        go_wp2_with fail
        refine (P2.out _ (CU.out.drewN n1)).mono ?_
        rintro e w2 ⟨rfl, n2, hw2⟩
        have h02 : w2.cell? ⟨p, 0, none⟩ = some (.pointer (some ⟨c, 0, none⟩)) := by rw [hw2]; exact h0'
        have Z2 := Lib.hid (show TokZ w2 w.heap.size by rw [hw2]; exact ⟨Z.out.blk⟩)
        have CU2 := Lib.hid (show CurAt w2 c s k by rw [hw2]; exact (CU.out.drewN n1).drewN n2)
        have OO := Lib.hid (show Only c w w2 by rw [hw2]; exact (((Only.refl c w0).drewN n1).drewN n2).from B.out)
        obtain ⟨g0, g1, g2, g3, g4, g5, g6, gf⟩ := Z2.out.facts
        clear hw2 Z CU h0' B
        go_wp2_with fail
        refine (HO1.out _).mono ?_
        rintro e w3 ⟨rfl, rfl⟩
        go_wp2_with fail
        exact bodyPost_ret (v := .tuple #[tokV (bad 7), .int .i64 7]) (by simp [results, Tryd.results69, go_sem, tokV, bad, g0, g1, g2, g3, g4, g5, g6]) rfl (post7 (f := bad 7) (Nat.le_refl _) (by omega) OO.out (fun h => by cases h) _ _ _ _ _ _ _)
      | false =>
        rw [h3] at O1
        cases h4 : bt s (k + 2) == 39 with
        | false =>
          have F : quote1 s k = bad 7 := by unfold quote1; rw [h4]; simp
          rw [F]
          rw [h4] at O2
          clear F
          have HO1 := Lib.hid O1
          have HO2 := Lib.hid O2
          clear O1 O2
          go_enter Tryd.func69, Tryd.ntmps69
          go_wp2_with fail
          refine (P1.out _ (H.out.alloc _).cur).mono ?_
          have h0' := (H.out.alloc (.cells #[.int .i64 0, .string ⟨#[]⟩, .int .i64 0, .bool false, .int .i64 0, .int .i64 0, .int .i64 0] 38)).c0
          have Z := Lib.hid (TokZ.new w)
          have B := Lib.hid (show Below w.heap.size w (w.alloc (.cells #[.int .i64 0, .string ⟨#[]⟩, .int .i64 0, .bool false, .int .i64 0, .int .i64 0, .int .i64 0] 38)) from (Below.refl _ _).alloc (Nat.le_refl _) _)
          have CU := Lib.hid (H.out.alloc (.cells #[.int .i64 0, .string ⟨#[]⟩, .int .i64 0, .bool false, .int .i64 0, .int .i64 0, .int .i64 0] 38)).cur
          generalize w.alloc (.cells #[.int .i64 0, .string ⟨#[]⟩, .int .i64 0, .bool false, .int .i64 0, .int .i64 0, .int .i64 0] 38) = w0 at Z B CU h0'
          rintro e w1 ⟨rfl, n1, rfl⟩
          clear h0
          go_wp2_with fail
          refine (P2.out _ (CU.out.drewN n1)).mono ?_
          rintro e w2 ⟨rfl, n2, hw2⟩
          have h02 : w2.cell? ⟨p, 0, none⟩ = some (.pointer (some ⟨c, 0, none⟩)) := by rw [hw2]; exact h0'
          have Z2 := Lib.hid (show TokZ w2 w.heap.size by rw [hw2]; exact ⟨Z.out.blk⟩)
          have CU2 := Lib.hid (show CurAt w2 c s k by rw [hw2]; exact (CU.out.drewN n1).drewN n2)
          have OO := Lib.hid (show Only c w w2 by rw [hw2]; exact (((Only.refl c w0).drewN n1).drewN n2).from B.out)
          obtain ⟨g0, g1, g2, g3, g4, g5, g6, gf⟩ := Z2.out.facts
          clear hw2 Z CU h0' B
          go_wp2_with fail
          refine (HO1.out _).mono ?_
          rintro e w3 ⟨rfl, rfl⟩
          go_wp2_with fail
          refine (HO2.out _).mono ?_
          rintro e w3 ⟨rfl, rfl⟩
          go_wp2_with fail
          exact bodyPost_ret (v := .tuple #[tokV (bad 7), .int .i64 7]) (by simp [results, Tryd.results69, go_sem, tokV, bad, g0, g1, g2, g3, g4, g5, g6]) rfl (post7 (f := bad 7) (Nat.le_refl _) (by omega) OO.out (fun h => by cases h) _ _ _ _ _ _ _)
        | true =>
          have F : quote1 s k = ⟨4, [], (bt s (k + 1)).toNat, 3, 0⟩ := by unfold quote1 visB; rw [h4, h3, decide_eq_true (show 32 ≤ (bt s (k + 1)).toNat by omega), decide_eq_true (show (bt s (k + 1)).toNat ≤ 126 by omega)]; rfl
          rw [F]
          rw [h4] at O2
          have hin : k + 2 < s.size := by
            rcases Nat.lt_or_ge (k + 2) s.size with g | g
            · exact g
            · rw [bt_out s (k + 2) g] at h4; cases h4
          clear F
          have HO1 := Lib.hid O1
          have HO2 := Lib.hid O2
          clear O1 O2
          go_enter Tryd.func69, Tryd.ntmps69
          go_wp2_with fail
          refine (P1.out _ (H.out.alloc _).cur).mono ?_
          have h0' := (H.out.alloc (.cells #[.int .i64 0, .string ⟨#[]⟩, .int .i64 0, .bool false, .int .i64 0, .int .i64 0, .int .i64 0] 38)).c0
          have Z := Lib.hid (TokZ.new w)
          have B := Lib.hid (show Below w.heap.size w (w.alloc (.cells #[.int .i64 0, .string ⟨#[]⟩, .int .i64 0, .bool false, .int .i64 0, .int .i64 0, .int .i64 0] 38)) from (Below.refl _ _).alloc (Nat.le_refl _) _)
          have CU := Lib.hid (H.out.alloc (.cells #[.int .i64 0, .string ⟨#[]⟩, .int .i64 0, .bool false, .int .i64 0, .int .i64 0, .int .i64 0] 38)).cur
          generalize w.alloc (.cells #[.int .i64 0, .string ⟨#[]⟩, .int .i64 0, .bool false, .int .i64 0, .int .i64 0, .int .i64 0] 38) = w0 at Z B CU h0'
          rintro e w1 ⟨rfl, n1, rfl⟩
          clear h0
          go_wp2_with fail
          refine (P2.out _ (CU.out.drewN n1)).mono ?_
          rintro e w2 ⟨rfl, n2, hw2⟩
          have h02 : w2.cell? ⟨p, 0, none⟩ = some (.pointer (some ⟨c, 0, none⟩)) := by rw [hw2]; exact h0'
          have Z2 := Lib.hid (show TokZ w2 w.heap.size by rw [hw2]; exact ⟨Z.out.blk⟩)
          have CU2 := Lib.hid (show CurAt w2 c s k by rw [hw2]; exact (CU.out.drewN n1).drewN n2)
          have OO := Lib.hid (show Only c w w2 by rw [hw2]; exact (((Only.refl c w0).drewN n1).drewN n2).from B.out)
          obtain ⟨g0, g1, g2, g3, g4, g5, g6, gf⟩ := Z2.out.facts
          clear hw2 Z CU h0' B
          go_wp2_with fail
          refine (HO1.out _).mono ?_
          rintro e w3 ⟨rfl, rfl⟩
          go_wp2_with fail
          refine (HO2.out _).mono ?_
          rintro e w3 ⟨rfl, rfl⟩
          go_wp2_with fail
          refine (skip_any c k 3 s _ CU2.out hs).mono ?_
          rw [show skipN 3 k s = 3 by unfold skipN; omega]
          rintro e w4 ⟨rfl, c4, o4⟩
          have C4 := Lib.hid c4
          have O4 := Lib.hid (OO.out.trans o4)
          have Z4 := Lib.hid (Z2.out.only o4 (by omega))
          clear c4 o4 Z2 OO CU2 h02 g0 g1 g2 g3 g4 g5 g6 gf
          go_wp2_with fail
          refine (char_any _ _).mono ?_
          rintro e w5 ⟨rfl, b5⟩
          have Z5 := Lib.hid (Z4.out.below b5)
          have O5 := Lib.hid (O4.out.belowR b5)
          have C5 := Lib.hid (C4.out.stays (b5.block c C4.out.lt))
          obtain ⟨g0, g1, g2, g3, g4, g5, g6, gf⟩ := Z5.out.facts
          clear b5 Z4 O4 C4
          go_wp2_with fail
          exact bodyPost_ret (v := .tuple #[tokV ⟨4, [], (bt s (k + 1)).toNat, 3, 0⟩, .int .i64 0]) (by simp [results, Tryd.results69, go_sem, tokV, g0, g1, g2, g3, g4, g5, g6]) rfl (post7 (f := ⟨4, [], (bt s (k + 1)).toNat, 3, 0⟩) (Nat.le_refl _) (by omega) O5.out (fun _ => C5.out) _ _ _ _ _ _ _)
end Go.Proofs.YtjdmaindoohmkaaDoor.P
