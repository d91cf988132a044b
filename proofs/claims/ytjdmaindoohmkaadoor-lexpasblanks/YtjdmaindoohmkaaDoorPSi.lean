/-
  The lexer's own, walked.
-/
import Derived.Test.YtjdmaindoohmkaaDoorPSh
namespace Go.Proofs.YtjdmaindoohmkaaDoor.P
open Go.RowKit Go.Sort

theorem setL_is (c : UInt8) : setL.data.toList.contains c = isLet c := by
  have := all8 (q := fun c => setL.data.toList.contains c == isLet c) (by decide +kernel) c
  simpa using this
theorem setD_has (c : UInt8) : setD.data.toList.contains c = isDig c := by
  have := all8 (q := fun c => setD.data.toList.contains c == isDig c) (by decide +kernel) c
  simpa using this
/-- What the lexer's own reads at k. -/
def ownF (s : ByteArray) (k : Nat) : Fd :=
  if isLet (bt s k) = true then nameL ((s.data.toList.drop k).takeWhile isNam)
  else if (bt s k == 39) = true then quoteL (s.data.toList.drop k)
  else if (bt s k == 35) = true then hashL ((s.data.toList.drop (k + 1)).takeWhile isDig)
  else signL (s.data.toList.drop k)
theorem nam_low (c : UInt8) (h : isNam c = true) : c.toNat < 128 := by
  have := all8 (q := fun c => !isNam c || decide (c.toNat < 128)) (by decide +kernel) c
  rw [h] at this
  simpa using this
theorem nam_ascii (l : List UInt8) (j : Nat) (b : UInt8) (h : (l.takeWhile isNam)[j]? = some b) : b.toNat < 128 :=
  nam_low b (tw_mem isNam l b (List.mem_of_getElem? h))
theorem cell_set7 {w : World} {b q o : Nat} (h : q ≠ b) (v0 v1 v2 v3 v4 v5 v6 : Value) : (set7 w b v0 v1 v2 v3 v4 v5 v6).cell? ⟨q, o, none⟩ = w.cell? ⟨q, o, none⟩ := by
  have e : ∀ (W : World) (j : Nat) (u : Value), (W.setCell ⟨b, j, none⟩ u).cell? ⟨q, o, none⟩ = W.cell? ⟨q, o, none⟩ := fun W j u => cell_eq (Below.heap_setCell _ _ _ _ (by simp; omega))
  unfold set7
  rw [e, e, e, e, e, e, e]
theorem OS.cells7 {w w1 : World} {p c k : Nat} {s : ByteArray} (hp : p < w.heap.size) (h : OS w p c s k w1) (v0 v1 v2 v3 v4 v5 v6 : Value) : (set7 w1 (w.heap.size + 1) v0 v1 v2 v3 v4 v5 v6).cell? ⟨w.heap.size, 0, none⟩ = some (.pointer (some ⟨p, 0, none⟩)) ∧ (set7 w1 (w.heap.size + 1) v0 v1 v2 v3 v4 v5 v6).cell? ⟨p, 0, none⟩ = some (.pointer (some ⟨c, 0, none⟩)) := by
  rw [cell_set7 (by omega), cell_set7 (by omega)]
  exact h.cells
theorem OS.cellsA {w w1 : World} {p c k : Nat} {s : ByteArray} (h : OS w p c s k w1) (o : Obj) : (w1.alloc o).cell? ⟨w.heap.size, 0, none⟩ = some (.pointer (some ⟨p, 0, none⟩)) ∧ (w1.alloc o).cell? ⟨p, 0, none⟩ = some (.pointer (some ⟨c, 0, none⟩)) :=
  (h.below ((Below.refl _ _).alloc (Nat.le_refl _) _)).cells
set_option maxHeartbeats 2000000 in
theorem own_let (p c k : Nat) (s : ByteArray) (w : World) (h : ScAt w p c s k) (hs : s.size ≤ 100000) (hl : isLet (bt s k) = true) :
    Calls Tryd.prog 24 #[.agg #[.pointer (some ⟨p, 0, none⟩)], .int .u8 ((bt s k).toNat : Int)] w (TokPost c s k (nameL ((s.data.toList.drop k).takeWhile isNam)) w) := by
  have hcl := h.cur.lt
  have hpl := h.lt
  have hsm : s.size ≤ maxLen := by unfold maxLen; omega
  have H := Lib.hid h
  clear h
  have hL := fun w1 => oneOf_any setL (bt s k) w1
  rw [setL_is, hl] at hL
  have HL := Lib.hid hL
  clear hL hl
  have hz := tw_size isNam s k
  have hzl := ba_len ((s.data.toList.drop k).takeWhile isNam)
  have HA := Lib.hid (nam_ascii (s.data.toList.drop k))
  have used : (nameL ((s.data.toList.drop k).takeWhile isNam)).err = 0 → (nameL ((s.data.toList.drop k).takeWhile isNam)).used = ((s.data.toList.drop k).takeWhile isNam).length := by
    unfold nameL; split
    · intro h; cases h
    · intro _; rfl
  have US := Lib.hid used
  have hLz : (ByteArray.mk (((s.data.toList.drop k).takeWhile isNam).map Lib.lowerB).toArray).size = ((s.data.toList.drop k).takeWhile isNam).length := by rw [ba_len, List.length_map]
  have hNT := fun (w1 : World) j (hw : ScAt w1 p c s j) => name_tok p c j s [⟨(((s.data.toList.drop k).takeWhile isNam).map Lib.lowerB).toArray⟩] (some ⟨w1.heap.size, 0, none⟩) 1 1 (w1.alloc (.cells #[.string ⟨(((s.data.toList.drop k).takeWhile isNam).map Lib.lowerB).toArray⟩] 9)) (hw.alloc _) (lit_strs w1 [⟨(((s.data.toList.drop k).takeWhile isNam).map Lib.lowerB).toArray⟩] (by simp [maxLen]) (by intro x hx; simp at hx; subst hx; unfold maxLen; omega)) (by decide) (by decide) (by rw [joinP_one]; show List.length (List.map _ _) ≤ _; rw [List.length_map]; omega)
  rw [nameP_one] at hNT
  have HN := Lib.hid hNT
  clear hNT hLz
  clear used
  have HW := Lib.hid fun w1 hc => while_tw c k s setN isNam w1 hc hsm (by decide) setN_is
  generalize (s.data.toList.drop k).takeWhile isNam = nm at *
  generalize hf : nameL nm = f
  have HF := Lib.hid hf
  clear hf
  have CW : Hid (∀ w1, OS w p c s k w1 → Calls Tryd.prog 32 #[.pointer (some ⟨c, 0, none⟩), .string setN] w1 fun e w' => e = .returned (.string ⟨nm.toArray⟩) ∧ OS w p c s (k + nm.length) w') :=
    Lib.hid fun w1 hw => (HW.out w1 hw.sc.cur).mono (by rintro e w' ⟨rfl, c1, o1⟩; exact ⟨rfl, hw.next hcl o1 c1⟩)
  have CL : Hid (∀ w1, OS w p c s (k + nm.length) w1 → Calls Tryd.prog 37 #[.string ⟨nm.toArray⟩] w1 fun e w' => e = .returned (.string ⟨(nm.map Lib.lowerB).toArray⟩) ∧ OS w p c s (k + nm.length) w') :=
    Lib.hid fun w1 hw => (Tryd.strings_ToLower_ascii ⟨nm.toArray⟩ w1 (by omega) (fun j b hb => HA.out j b hb)).mono (by rintro e w' ⟨rfl, b1⟩; exact ⟨rfl, hw.below b1⟩)
  have CN : Hid (∀ w1, OS w p c s (k + nm.length) w1 → Calls Tryd.prog 36 #[.pointer (some ⟨p, 0, none⟩), .slice (some ⟨w1.heap.size, 0, none⟩) 1 1] (w1.alloc (.cells #[.string ⟨(nm.map Lib.lowerB).toArray⟩] 9)) fun e w' => e = .returned (.tuple #[.agg #[.int .i64 (f.kind : Nat), .string ⟨f.text.toArray⟩, .int .i64 (f.n : Nat), .bool false, .int .i64 0, .int .i64 0, .int .i64 0], .int .i64 (f.err : Nat)]) ∧ OS w p c s (k + nm.length) w') :=
    Lib.hid fun w1 hw => (HN.out w1 (k + nm.length) hw.sc).mono (by rw [HF.out]; rintro e w' ⟨rfl, b1⟩; exact ⟨rfl, (hw.below ((Below.refl _ _).alloc (Nat.le_refl _) _)).below b1⟩)
  clear HW HN HA
  go_enter Tryd.func24, Tryd.ntmps24
  go_wp2_with fail
  refine (HL.out _).mono ?_
  have BZ := Lib.hid (BoxZ.new w p)
  have H0 := Lib.hid ((H.out.alloc (.cells #[.pointer (some ⟨p, 0, none⟩)] 48)).alloc (.cells #[.int .i64 0, .string ⟨#[]⟩, .int .i64 0, .bool false, .int .i64 0, .int .i64 0, .int .i64 0] 38))
  generalize (w.alloc (.cells #[.pointer (some ⟨p, 0, none⟩)] 48)).alloc (.cells #[.int .i64 0, .string ⟨#[]⟩, .int .i64 0, .bool false, .int .i64 0, .int .i64 0, .int .i64 0] 38) = w0 at BZ H0
  have x0 := BZ.out.cell
  rintro e w1 ⟨rfl, rfl⟩
  have ST := Lib.hid (OS.start BZ.out H0.out)
  clear BZ H0 x0
  go_wp2_with fail
  have hc := ST.out.drew.cells
  go_region_held3 (fun w' => w'.cell? ⟨w.heap.size, 0, none⟩ = some (.pointer (some ⟨p, 0, none⟩)) ∧ w'.cell? ⟨p, 0, none⟩ = some (.pointer (some ⟨c, 0, none⟩))) (first | with_reducible exact hc | with_reducible exact OS.cellsA st7.out _ | with_reducible exact st6.out.cells | with_reducible exact st7.out.cells | with_reducible exact st8.out.cells | with_reducible assumption | exact OS.cells7 hpl st8.out _ _ _ _ _ _ _)
    (first
      | (go_at_call 32; refine (CW.out _ ST.out.drew).mono ?_; rintro e w6 ⟨rfl, s6⟩; have st6 := Lib.hid s6; clear s6)
      | (go_at_call 37; with_reducible refine (CL.out _ st6.out).mono ?_; rintro e w7 ⟨rfl, s7⟩; have st7 := Lib.hid s7; clear s7)
      | (go_at_call 36; with_reducible refine (CN.out _ st7.out).mono ?_; rintro e w8 ⟨rfl, s8⟩; have st8 := Lib.hid s8; obtain ⟨g0, g1, g2, g3, g4, g5, g6, gf⟩ := s8.tok.facts; clear s8))
  go_wp2_with fail
  exact bodyPost_ret (v := .tuple #[tokV f, .int .i64 (f.err : Nat)]) (by simp [results, Tryd.results24, go_sem, tokV, g0, g1, g2, g3, g4, g5, g6]) rfl (post7 (f := f) (by omega) (by omega) st8.out.only (fun h => by have e := US.out (by rw [HF.out]; exact h); rw [HF.out] at e; rw [e]; exact st8.out.sc.cur) _ _ _ _ _ _ _)
set_option maxHeartbeats 1000000 in
theorem own_rest (p c k : Nat) (s : ByteArray) (w : World) (h : ScAt w p c s k) (hs : s.size ≤ maxLen) (hk : k < s.size) (hl : isLet (bt s k) = false) :
    Calls Tryd.prog 24 #[.agg #[.pointer (some ⟨p, 0, none⟩)], .int .u8 ((bt s k).toNat : Int)] w (TokPost c s k (ownF s k) w) := by
  have hcl := h.cur.lt
  have hpl := h.lt
  have H := Lib.hid h
  clear h
  have hL := fun w1 => oneOf_any setL (bt s k) w1
  rw [setL_is, hl] at hL
  have HL := Lib.hid hL
  clear hL
  cases h39 : bt s k == 39 with
  | true =>
    have F : ownF s k = quoteL (s.data.toList.drop k) := by unfold ownF; rw [hl, if_neg (by decide), if_pos h39]
    rw [F]
    have d1 : (((bt s k).toNat : Int) == 39) = true := by rw [show bt s k = 39 by simpa using h39]; rfl
    have HQ := Lib.hid fun w1 hw => quoted_tok p c k s w1 hw hs
    generalize quoteL (s.data.toList.drop k) = f at HQ ⊢
    clear F hl h39
    go_enter Tryd.func24, Tryd.ntmps24
    go_wp2_with fail
    refine (HL.out _).mono ?_
    have BZ := Lib.hid (BoxZ.new w p)
    have H0 := Lib.hid ((H.out.alloc (.cells #[.pointer (some ⟨p, 0, none⟩)] 48)).alloc (.cells #[.int .i64 0, .string ⟨#[]⟩, .int .i64 0, .bool false, .int .i64 0, .int .i64 0, .int .i64 0] 38))
    generalize (w.alloc (.cells #[.pointer (some ⟨p, 0, none⟩)] 48)).alloc (.cells #[.int .i64 0, .string ⟨#[]⟩, .int .i64 0, .bool false, .int .i64 0, .int .i64 0, .int .i64 0] 38) = w0 at BZ H0
    have x0 := BZ.out.cell
    rintro e w1 ⟨rfl, rfl⟩
    have ST := Lib.hid (OS.start BZ.out H0.out)
    clear BZ H0
    go_wp2_with fail
    refine (HQ.out _ ST.out.sc).mono ?_
    unfold TokPost tokV
    rintro e w4 ⟨rfl, o4, c4⟩
    have C4 := Lib.hid c4
    have O4 := Lib.hid (ST.out.only.trans o4)
    have Z4 := Lib.hid (ST.out.tok.only o4 (by omega))
    obtain ⟨g0, g1, g2, g3, g4, g5, g6, gf⟩ := Z4.out.facts
    clear c4 o4 x0
    go_wp2_with fail
    exact bodyPost_ret (v := .tuple #[tokV f, .int .i64 (f.err : Nat)]) (by simp [results, Tryd.results24, go_sem, tokV, g0, g1, g2, g3, g4, g5, g6]) rfl (post7 (f := f) (by omega) (by omega) O4.out C4.out _ _ _ _ _ _ _)
  | false =>
    have d1 : (((bt s k).toNat : Int) == 39) = false := by
      have h2 : bt s k ≠ 39 := by simpa using h39
      have h3 : (bt s k).toNat ≠ 39 := fun e => h2 (UInt8.toNat_inj.1 e)
      simp; omega
    cases h35 : bt s k == 35 with
    | true =>
      have F : ownF s k = hashL ((s.data.toList.drop (k + 1)).takeWhile isDig) := by unfold ownF; rw [hl, if_neg (by decide), h39, if_neg (by decide), if_pos h35]
      rw [F]
      have d2 : (((bt s k).toNat : Int) == 35) = true := by rw [show bt s k = 35 by simpa using h35]; rfl
      have HQ := Lib.hid fun w1 hw => numbered_tok p c k s w1 hw hs hk
      generalize hashL ((s.data.toList.drop (k + 1)).takeWhile isDig) = f at HQ ⊢
      clear F hl h39 h35
      go_enter Tryd.func24, Tryd.ntmps24
      go_wp2_with fail
      refine (HL.out _).mono ?_
      have BZ := Lib.hid (BoxZ.new w p)
      have H0 := Lib.hid ((H.out.alloc (.cells #[.pointer (some ⟨p, 0, none⟩)] 48)).alloc (.cells #[.int .i64 0, .string ⟨#[]⟩, .int .i64 0, .bool false, .int .i64 0, .int .i64 0, .int .i64 0] 38))
      generalize (w.alloc (.cells #[.pointer (some ⟨p, 0, none⟩)] 48)).alloc (.cells #[.int .i64 0, .string ⟨#[]⟩, .int .i64 0, .bool false, .int .i64 0, .int .i64 0, .int .i64 0] 38) = w0 at BZ H0
      have x0 := BZ.out.cell
      rintro e w1 ⟨rfl, rfl⟩
      have ST := Lib.hid (OS.start BZ.out H0.out)
      clear BZ H0
      go_wp2_with fail
      refine (HQ.out _ ST.out.sc).mono ?_
      unfold TokPost tokV
      rintro e w4 ⟨rfl, o4, c4⟩
      have C4 := Lib.hid c4
      have O4 := Lib.hid (ST.out.only.trans o4)
      have Z4 := Lib.hid (ST.out.tok.only o4 (by omega))
      obtain ⟨g0, g1, g2, g3, g4, g5, g6, gf⟩ := Z4.out.facts
      clear c4 o4 x0
      go_wp2_with fail
      exact bodyPost_ret (v := .tuple #[tokV f, .int .i64 (f.err : Nat)]) (by simp [results, Tryd.results24, go_sem, tokV, g0, g1, g2, g3, g4, g5, g6]) rfl (post7 (f := f) (by omega) (by omega) O4.out C4.out _ _ _ _ _ _ _)
    | false =>
      have F : ownF s k = signL (s.data.toList.drop k) := by unfold ownF; rw [hl, if_neg (by decide), h39, if_neg (by decide), h35, if_neg (by decide)]
      rw [F]
      have d2 : (((bt s k).toNat : Int) == 35) = false := by
        have h2 : bt s k ≠ 35 := by simpa using h35
        have h3 : (bt s k).toNat ≠ 35 := fun e => h2 (UInt8.toNat_inj.1 e)
        simp; omega
      have HQ := Lib.hid fun w1 a hw hS => sign_tok p c k s a w1 hw hs hS
      generalize signL (s.data.toList.drop k) = f at HQ ⊢
      clear F hl h39 h35
      go_enter Tryd.func24, Tryd.ntmps24
      go_wp2_with fail
      refine (HL.out _).mono ?_
      have BZ := Lib.hid (BoxZ.new w p)
      have H0 := Lib.hid ((H.out.alloc (.cells #[.pointer (some ⟨p, 0, none⟩)] 48)).alloc (.cells #[.int .i64 0, .string ⟨#[]⟩, .int .i64 0, .bool false, .int .i64 0, .int .i64 0, .int .i64 0] 38))
      generalize (w.alloc (.cells #[.pointer (some ⟨p, 0, none⟩)] 48)).alloc (.cells #[.int .i64 0, .string ⟨#[]⟩, .int .i64 0, .bool false, .int .i64 0, .int .i64 0, .int .i64 0] 38) = w0 at BZ H0
      have x0 := BZ.out.cell
      rintro e w1 ⟨rfl, rfl⟩
      have ST := Lib.hid (OS.start BZ.out H0.out)
      clear BZ H0
      go_wp2_with fail
      refine (HQ.out _ _ (ST.out.sc.alloc _) (lit_strs _ signsA (by decide) (by decide))).mono ?_
      have ST2 := Lib.hid (ST.out.below ((Below.refl _ _).alloc (Nat.le_refl _) (.cells (signsA.map Value.string).toArray 9)))
      unfold TokPost tokV
      rintro e w4 ⟨rfl, o4, c4⟩
      have C4 := Lib.hid c4
      have O4 := Lib.hid (ST2.out.only.trans o4)
      have Z4 := Lib.hid (ST2.out.tok.only o4 (by omega))
      obtain ⟨g0, g1, g2, g3, g4, g5, g6, gf⟩ := Z4.out.facts
      clear c4 o4 x0
      go_wp2_with fail
      exact bodyPost_ret (v := .tuple #[tokV f, .int .i64 (f.err : Nat)]) (by simp [results, Tryd.results24, go_sem, tokV, g0, g1, g2, g3, g4, g5, g6]) rfl (post7 (f := f) (by omega) (by omega) O4.out C4.out _ _ _ _ _ _ _)
theorem own_tok (p c k : Nat) (s : ByteArray) (w : World) (h : ScAt w p c s k) (hs : s.size ≤ 100000) (hk : k < s.size) :
    Calls Tryd.prog 24 #[.agg #[.pointer (some ⟨p, 0, none⟩)], .int .u8 ((bt s k).toNat : Int)] w (TokPost c s k (ownF s k) w) := by
  cases hl : isLet (bt s k) with
  | true =>
    have F : ownF s k = nameL ((s.data.toList.drop k).takeWhile isNam) := by unfold ownF; rw [if_pos hl]
    rw [F]
    exact own_let p c k s w h hs hl
  | false => exact own_rest p c k s w h (by unfold maxLen; omega) hk hl
end Go.Proofs.YtjdmaindoohmkaaDoor.P
