/-
  The lexer's own, walked.
-/
import Derived.Test.YtjdmaindoohmkaaGreatDoorSi
namespace Go.Proofs.YtjdmaindoohmkaaGreatDoor
open Go.RowKit Go.Sort

/-- What the lexer's own reads at k. -/
def ownF (s : ByteArray) (k : Nat) : Fd :=
  if isLet (bt s k) = true then nameL (nmL (s.data.toList.drop k))
  else if (bt s k == 39) = true then quoteL (s.data.toList.drop k)
  else signL (s.data.toList.drop k)
set_option maxRecDepth 10000 in
set_option maxHeartbeats 2000000 in
theorem own_tok (p c k : Nat) (s : ByteArray) (w : World) (h : ScAt w p c s k) (hs : s.size ≤ 100000) (hk : k < s.size) :
    Calls Tryz.prog 10 #[.agg #[.pointer (some ⟨p, 0, none⟩)], .int .u8 ((bt s k).toNat : Int)] w (TokPost c s k (ownF s k) w) := by
  have hcl := h.cur.lt
  have hpl := h.lt
  have hsm : s.size ≤ maxLen := by unfold maxLen; omega
  have H := Lib.hid h
  clear h
  have hL := fun w1 => oneOf_any setL (bt s k) w1
  rw [setL_is] at hL
  have hQ := fun w1 => oneOf_any ⟨#[39]⟩ (bt s k) w1
  rw [q39] at hQ
  cases hl : isLet (bt s k) with
  | true =>
    have F : ownF s k = nameL (nmL (s.data.toList.drop k)) := by unfold ownF; rw [if_pos hl]
    rw [F]
    rw [hl] at hL
    have HL := Lib.hid hL
    have HQ := Lib.hid fun w1 hw => name_any p c k s w1 hw hs (by rw [drop_bt s k hk]; exact tw_pos (by unfold isNam; rw [hl]; rfl))
    generalize nameL (nmL (s.data.toList.drop k)) = f at HQ ⊢
    clear F hl hL hQ
    go_enter Tryz.func10, Tryz.ntmps10
    go_wp2_with fail
    refine (HL.out _).mono ?_
    have BZ := Lib.hid (BoxZ.new w p)
    have H0 := Lib.hid ((H.out.alloc (.cells #[.pointer (some ⟨p, 0, none⟩)] 38)).alloc (.cells #[.int .i64 0, .string ⟨#[]⟩, .int .i64 0, .bool false, .int .i64 0, .int .i64 0, .int .i64 0] 34))
    generalize (w.alloc (.cells #[.pointer (some ⟨p, 0, none⟩)] 38)).alloc (.cells #[.int .i64 0, .string ⟨#[]⟩, .int .i64 0, .bool false, .int .i64 0, .int .i64 0, .int .i64 0] 34) = w0 at BZ H0
    have x0 := BZ.out.cell
    rintro e w1 ⟨rfl, rfl⟩
    have ST := Lib.hid (OS.start BZ.out H0.out)
    clear BZ H0
    go_wp2_with fail
    refine (HQ.out _ ST.out.sc).mono ?_
    unfold TokPost tokV
    rintro e w9 ⟨rfl, o9, c9⟩
    have C9 := Lib.hid c9
    have O9 := Lib.hid (ST.out.only.trans o9)
    have Z9 := Lib.hid (ST.out.tok.only o9 (by omega))
    obtain ⟨g0, g1, g2, g3, g4, g5, g6, gf⟩ := Z9.out.facts
    clear c9 o9 x0
    go_wp2_with fail
    exact bodyPost_ret (v := .tuple #[tokV f, .int .i64 (f.err : Nat)]) (by simp [results, Tryz.results10, go_sem, tokV, g0, g1, g2, g3, g4, g5, g6]) rfl (post7 (f := f) (by omega) (by omega) O9.out C9.out _ _ _ _ _ _ _)
  | false =>
    rw [hl] at hL
    have HL := Lib.hid hL
    clear hL
    cases h39 : bt s k == 39 with
    | true =>
      have F : ownF s k = quoteL (s.data.toList.drop k) := by unfold ownF; rw [hl, if_neg (by decide), if_pos h39]
      rw [F]
      rw [h39] at hQ
      have HQQ := Lib.hid hQ
      have HQ := Lib.hid fun w1 hw => quoted_tok p c k s w1 hw hs
      generalize quoteL (s.data.toList.drop k) = f at HQ ⊢
      clear F hl h39 hQ
      go_enter Tryz.func10, Tryz.ntmps10
      go_wp2_with fail
      refine (HL.out _).mono ?_
      have BZ := Lib.hid (BoxZ.new w p)
      have H0 := Lib.hid ((H.out.alloc (.cells #[.pointer (some ⟨p, 0, none⟩)] 38)).alloc (.cells #[.int .i64 0, .string ⟨#[]⟩, .int .i64 0, .bool false, .int .i64 0, .int .i64 0, .int .i64 0] 34))
      generalize (w.alloc (.cells #[.pointer (some ⟨p, 0, none⟩)] 38)).alloc (.cells #[.int .i64 0, .string ⟨#[]⟩, .int .i64 0, .bool false, .int .i64 0, .int .i64 0, .int .i64 0] 34) = w0 at BZ H0
      have x0 := BZ.out.cell
      rintro e w1 ⟨rfl, rfl⟩
      have ST := Lib.hid (OS.start BZ.out H0.out)
      clear BZ H0
      go_wp2_with fail
      refine (HQQ.out _).mono ?_
      rintro e w2 ⟨rfl, rfl⟩
      go_wp2_with fail
      refine (HQ.out _ ST.out.sc).mono ?_
      unfold TokPost tokV
      rintro e w9 ⟨rfl, o9, c9⟩
      have C9 := Lib.hid c9
      have O9 := Lib.hid (ST.out.only.trans o9)
      have Z9 := Lib.hid (ST.out.tok.only o9 (by omega))
      obtain ⟨g0, g1, g2, g3, g4, g5, g6, gf⟩ := Z9.out.facts
      clear c9 o9 x0
      go_wp2_with fail
      exact bodyPost_ret (v := .tuple #[tokV f, .int .i64 (f.err : Nat)]) (by simp [results, Tryz.results10, go_sem, tokV, g0, g1, g2, g3, g4, g5, g6]) rfl (post7 (f := f) (by omega) (by omega) O9.out C9.out _ _ _ _ _ _ _)
    | false =>
      have F : ownF s k = signL (s.data.toList.drop k) := by unfold ownF; rw [hl, if_neg (by decide), h39, if_neg (by decide)]
      rw [F]
      rw [h39] at hQ
      have HQQ := Lib.hid hQ
      have HQ := Lib.hid fun w1 a hw hS => sign_tok p c k s a w1 hw hsm hS
      generalize signL (s.data.toList.drop k) = f at HQ ⊢
      clear F hl h39 hQ
      go_enter Tryz.func10, Tryz.ntmps10
      go_wp2_with fail
      refine (HL.out _).mono ?_
      have BZ := Lib.hid (BoxZ.new w p)
      have H0 := Lib.hid ((H.out.alloc (.cells #[.pointer (some ⟨p, 0, none⟩)] 38)).alloc (.cells #[.int .i64 0, .string ⟨#[]⟩, .int .i64 0, .bool false, .int .i64 0, .int .i64 0, .int .i64 0] 34))
      generalize (w.alloc (.cells #[.pointer (some ⟨p, 0, none⟩)] 38)).alloc (.cells #[.int .i64 0, .string ⟨#[]⟩, .int .i64 0, .bool false, .int .i64 0, .int .i64 0, .int .i64 0] 34) = w0 at BZ H0
      have x0 := BZ.out.cell
      rintro e w1 ⟨rfl, rfl⟩
      have ST := Lib.hid (OS.start BZ.out H0.out)
      clear BZ H0
      go_wp2_with fail
      refine (HQQ.out _).mono ?_
      rintro e w2 ⟨rfl, rfl⟩
      go_wp2_with fail
      refine (HQ.out _ _ (ST.out.sc.alloc _) (lit_strs _ signsA (by decide) (by decide))).mono ?_
      have ST2 := Lib.hid (ST.out.below ((Below.refl _ _).alloc (Nat.le_refl _) (.cells (signsA.map Value.string).toArray 9)))
      unfold TokPost tokV
      rintro e w9 ⟨rfl, o9, c9⟩
      have C9 := Lib.hid c9
      have O9 := Lib.hid (ST2.out.only.trans o9)
      have Z9 := Lib.hid (ST2.out.tok.only o9 (by omega))
      obtain ⟨g0, g1, g2, g3, g4, g5, g6, gf⟩ := Z9.out.facts
      clear c9 o9 x0
      go_wp2_with fail
      exact bodyPost_ret (v := .tuple #[tokV f, .int .i64 (f.err : Nat)]) (by simp [results, Tryz.results10, go_sem, tokV, g0, g1, g2, g3, g4, g5, g6]) rfl (post7 (f := f) (by omega) (by omega) O9.out C9.out _ _ _ _ _ _ _)
end Go.Proofs.YtjdmaindoohmkaaGreatDoor
