/-
  The reference's First, walked.
-/
import Derived.Test.YtjdmaindoohmkaaDoorPRfc
namespace Go.Proofs.YtjdmaindoohmkaaDoor.P
open Go.RowKit Go.Sort

theorem notLet {c : UInt8} (h : isLet c = false) : (decide ((97 : Int) ≤ (c.toNat : Int)) = false ∨ (decide ((97 : Int) ≤ (c.toNat : Int)) = true ∧ decide ((c.toNat : Int) ≤ 122) = false)) ∧ (decide ((65 : Int) ≤ (c.toNat : Int)) = false ∨ (decide ((65 : Int) ≤ (c.toNat : Int)) = true ∧ decide ((c.toNat : Int) ≤ 90) = false)) := by
  unfold isLet isLow isUp at h
  rw [Bool.or_eq_false_iff] at h
  have h1 : ¬ (97 ≤ c.toNat ∧ c.toNat ≤ 122) := by have := h.1; rw [← Bool.not_eq_true, Bool.and_eq_true, decide_eq_true_iff, decide_eq_true_iff] at this; exact this
  have h2 : ¬ (65 ≤ c.toNat ∧ c.toNat ≤ 90) := by have := h.2; rw [← Bool.not_eq_true, Bool.and_eq_true, decide_eq_true_iff, decide_eq_true_iff] at this; exact this
  constructor
  · by_cases g : 97 ≤ c.toNat
    · exact .inr ⟨by simp; omega, by simp; omega⟩
    · exact .inl (by simp; omega)
  · by_cases g : 65 ≤ c.toNat
    · exact .inr ⟨by simp; omega, by simp; omega⟩
    · exact .inl (by simp; omega)
theorem yesLet {c : UInt8} (h : isLet c = true) : (97 ≤ c.toNat ∧ c.toNat ≤ 122) ∨ (65 ≤ c.toNat ∧ c.toNat ≤ 90) := by
  unfold isLet isLow isUp at h
  simpa using h
theorem list_bt (s : ByteArray) (h : 0 < s.size) : s.data.toList = bt s 0 :: s.data.toList.drop 1 := by have := drop_bt s 0 h; simpa using this
theorem beg_bt (s : ByteArray) (h : 0 < s.size) : begL 0 s.data.toList = (bt s 0 == 123) := by rw [list_bt s h, beg_cons]
theorem fst_note {s : ByteArray} (h : 0 < s.size) (hc : (bt s 0 == 123) = true) : tokL s.data.toList = noteL s.data.toList := by
  have e := list_bt s h
  rw [e, tokL_cons, if_pos hc]
theorem fst_let {s : ByteArray} (h : 0 < s.size) (hl : isLet (bt s 0) = true) : tokL s.data.toList = nameL (s.data.toList.takeWhile isNam) := by
  have e := list_bt s h
  obtain ⟨_, b2, b3⟩ := let_not _ hl
  rw [e, tokL_cons, b2, if_neg (by decide), b3, if_neg (by decide), if_pos hl]
theorem fst_dig {s : ByteArray} (h : 0 < s.size) (hd : isDig (bt s 0) = true) (hc : (bt s 0 == 123) = false) : tokL s.data.toList = intL (s.data.toList.takeWhile isDig) := by
  have e := list_bt s h
  rw [e, tokL_cons, hc, if_neg (by decide), if_pos hd]
theorem fst_39 {s : ByteArray} (h : 0 < s.size) (hc : bt s 0 = 39) : tokL s.data.toList = quoteL s.data.toList := by
  have e := list_bt s h
  rw [hc] at e
  rw [e, tokL_cons, if_neg (by decide), if_neg (by decide), if_neg (by decide), if_pos (by decide)]
theorem fst_35 {s : ByteArray} (h : 0 < s.size) (hc : bt s 0 = 35) : tokL s.data.toList = hashL ((s.data.toList.drop 1).takeWhile isDig) := by
  have e := list_bt s h
  rw [hc] at e
  have e2 : tokL (35 :: s.data.toList.drop 1) = hashL ((s.data.toList.drop 1).takeWhile isDig) := by
    rw [tokL_cons, if_neg (by decide), if_neg (by decide), if_neg (by decide), if_neg (by decide), if_pos (by decide)]
  rw [← e2, ← e]
theorem fst_sign {s : ByteArray} (h : 0 < s.size) (hc : (bt s 0 == 123) = false) (hd : isDig (bt s 0) = false) (hl : isLet (bt s 0) = false) (h39 : (bt s 0 == 39) = false) (h35 : (bt s 0 == 35) = false) : tokL s.data.toList = signL s.data.toList := by
  have e := list_bt s h
  rw [e, tokL_cons, hc, if_neg (by decide), hd, if_neg (by decide), hl, if_neg (by decide), h39, if_neg (by decide), h35, if_neg (by decide)]
theorem toNat_eq (c : UInt8) (n : Nat) (hn : n < 256) : (c == UInt8.ofNat n) = decide (c.toNat = n) := by
  rw [Bool.eq_iff_iff, beq_iff_eq, decide_eq_true_iff]
  constructor
  · rintro rfl; simp; omega
  · intro h; exact UInt8.toNat_inj.1 (by rw [h]; simp; omega)
set_option maxRecDepth 100000 in
set_option maxHeartbeats 4000000 in
theorem first_some (s : ByteArray) (w : World) (hs : s.size ≤ 100000) (h0 : 0 < s.size) (hsg : isLet (bt s 0) = true ∨ (bt s 0 == 123) = true ∨ isDig (bt s 0) = true ∨ (bt s 0).toNat = 39 ∨ (bt s 0).toNat = 35) : Calls Tryd.prog 27 #[.int .i64 0, .string s] w (FPost (tokL s.data.toList) w) := by
  have hsm : s.size ≤ maxLen := by unfold maxLen; omega
  have hb0 := bt_eq s 0 h0
  have hlb := UInt8.toNat_lt (bt s 0)
  have hB := fun w1 => refBeg_0 s w1
  rw [beg_bt s h0] at hB
  cases hc : bt s 0 == 123 with
  | true =>
    rw [hc] at hB
    have HB := Lib.hid hB
    rw [fst_note h0 hc]
    have hR := fun w1 => refRead_any 0 s w1 hsm
    obtain ⟨t, u, e, hq⟩ : ∃ t u e, readL 0 s.data.toList = (t, u, e) := ⟨_, _, _, rfl⟩
    rw [hq] at hR
    have hR : ∀ w1, Calls Tryd.prog 42 #[.int .i64 0, .string s] w1 fun e_1 w' => e_1 = .returned (.tuple #[.string ⟨t.toArray⟩, .int .i64 (u : Nat), .int .i64 (e : Nat)]) ∧ Below w1.heap.size w1 w' := hR
    have HR := Lib.hid hR
    have hfv : FV (noteL s.data.toList) (.agg #[.int .i64 6, .string ⟨t.toArray⟩, .int .i64 0, .bool false, .int .i64 0, .int .i64 0, .int .i64 0, .int .i64 (u : Nat), .int .i64 (e : Nat)]) := by
      by_cases he : e = 0
      · rw [note_ok hq he]
        subst he
        exact fv_ok 6 0 u t
      · rw [note_bad hq he]
        exact ⟨6, 0, u, _, rfl, fun h => absurd h he⟩
    generalize noteL s.data.toList = f at hfv
    have HFV := Lib.hid hfv
    clear hB hc hR hq hfv hsg
    go_enter Tryd.func27, Tryd.ntmps27
    go_wp2_with fail
    refine (HB.out _).mono ?_
    have Z := Lib.hid (FndZ.new w)
    have B := Lib.hid (show Below w.heap.size w (w.alloc (.cells #[.int .i64 0, .string ⟨#[]⟩, .int .i64 0, .bool false, .int .i64 0, .int .i64 0, .int .i64 0, .int .i64 0, .int .i64 0] 54)) from (Below.refl _ _).alloc (Nat.le_refl _) _)
    generalize w.alloc (.cells #[.int .i64 0, .string ⟨#[]⟩, .int .i64 0, .bool false, .int .i64 0, .int .i64 0, .int .i64 0, .int .i64 0, .int .i64 0] 54) = w0 at Z B
    rintro e w1 ⟨rfl, rfl⟩
    go_wp2_with fail
    refine (HR.out _).mono ?_
    rintro e_1 w2 ⟨rfl, b2⟩
    have Z2 := Lib.hid (Z.out.below b2)
    have B2 := Lib.hid (B.out.trans (b2.mono B.out.size))
    obtain ⟨f0, f1, f2, f3, f4, f5, f6, f7, f8, gf⟩ := Z2.out.facts
    clear b2 Z B
    go_wp2_with fail
    exact bodyPost_ret (v := .agg #[.int .i64 6, .string ⟨t.toArray⟩, .int .i64 0, .bool false, .int .i64 0, .int .i64 0, .int .i64 0, .int .i64 (u : Nat), .int .i64 (e : Nat)]) (by simp [results, Tryd.results27, go_sem, f0, f1, f2, f3, f4, f5, f6, f7, f8]) rfl ⟨_, rfl, HFV.out, set9_below (Nat.le_refl _) B2.out _ _ _ _ _ _ _ _ _⟩
  | false =>
    rw [hc] at hB
    have HB := Lib.hid hB
    clear hB
    cases hl : isLet (bt s 0) with
    | true =>
      rw [fst_let h0 hl]
      have HN := Lib.hid fun w1 => refName s w1 hs
      generalize nameL (s.data.toList.takeWhile isNam) = f at HN ⊢
      have hy := yesLet hl
      clear hsg hl hc
      by_cases g : 97 ≤ (bt s 0).toNat ∧ (bt s 0).toNat ≤ 122
      · have d1 : decide ((97 : Int) ≤ ((bt s 0).toNat : Int)) = true := by simp; omega
        have d2 : decide (((bt s 0).toNat : Int) ≤ 122) = true := by simp; omega
        clear hy g
        go_enter Tryd.func27, Tryd.ntmps27
        go_wp2_with fail
        refine (HB.out _).mono ?_
        have Z := Lib.hid (FndZ.new w)
        have B := Lib.hid (show Below w.heap.size w (w.alloc (.cells #[.int .i64 0, .string ⟨#[]⟩, .int .i64 0, .bool false, .int .i64 0, .int .i64 0, .int .i64 0, .int .i64 0, .int .i64 0] 54)) from (Below.refl _ _).alloc (Nat.le_refl _) _)
        generalize w.alloc (.cells #[.int .i64 0, .string ⟨#[]⟩, .int .i64 0, .bool false, .int .i64 0, .int .i64 0, .int .i64 0, .int .i64 0, .int .i64 0] 54) = w0 at Z B
        rintro e w1 ⟨rfl, rfl⟩
        go_wp2_with fail
        refine (HN.out _).mono ?_
        rintro e w2 ⟨v, rfl, hfv, b2⟩
        obtain ⟨fk, fn, fu, ft, rfl, hf0⟩ := hfv
        have Z2 := Lib.hid (Z.out.below b2)
        have B2 := Lib.hid (B.out.trans (b2.mono B.out.size))
        have HF0 := Lib.hid hf0
        obtain ⟨f0, f1, f2, f3, f4, f5, f6, f7, f8, gf⟩ := Z2.out.facts
        clear b2 hf0 Z B
        go_wp2_with fail
        exact bodyPost_ret (v := .agg #[.int .i64 fk, .string ft, .int .i64 fn, .bool false, .int .i64 0, .int .i64 0, .int .i64 0, .int .i64 fu, .int .i64 (f.err : Nat)]) (by simp [results, Tryd.results27, go_sem, f0, f1, f2, f3, f4, f5, f6, f7, f8]) rfl ⟨_, rfl, ⟨fk, fn, fu, ft, rfl, HF0.out⟩, set9_below (Nat.le_refl _) B2.out _ _ _ _ _ _ _ _ _⟩
      · have d1 : decide ((97 : Int) ≤ ((bt s 0).toNat : Int)) = false := by simp; omega
        have d3 : decide ((65 : Int) ≤ ((bt s 0).toNat : Int)) = true := by simp; omega
        have d4 : decide (((bt s 0).toNat : Int) ≤ 90) = true := by simp; omega
        clear hy g
        go_enter Tryd.func27, Tryd.ntmps27
        go_wp2_with fail
        refine (HB.out _).mono ?_
        have Z := Lib.hid (FndZ.new w)
        have B := Lib.hid (show Below w.heap.size w (w.alloc (.cells #[.int .i64 0, .string ⟨#[]⟩, .int .i64 0, .bool false, .int .i64 0, .int .i64 0, .int .i64 0, .int .i64 0, .int .i64 0] 54)) from (Below.refl _ _).alloc (Nat.le_refl _) _)
        generalize w.alloc (.cells #[.int .i64 0, .string ⟨#[]⟩, .int .i64 0, .bool false, .int .i64 0, .int .i64 0, .int .i64 0, .int .i64 0, .int .i64 0] 54) = w0 at Z B
        rintro e w1 ⟨rfl, rfl⟩
        go_wp2_with fail
        refine (HN.out _).mono ?_
        rintro e w2 ⟨v, rfl, hfv, b2⟩
        obtain ⟨fk, fn, fu, ft, rfl, hf0⟩ := hfv
        have Z2 := Lib.hid (Z.out.below b2)
        have B2 := Lib.hid (B.out.trans (b2.mono B.out.size))
        have HF0 := Lib.hid hf0
        obtain ⟨f0, f1, f2, f3, f4, f5, f6, f7, f8, gf⟩ := Z2.out.facts
        clear b2 hf0 Z B
        go_wp2_with fail
        exact bodyPost_ret (v := .agg #[.int .i64 fk, .string ft, .int .i64 fn, .bool false, .int .i64 0, .int .i64 0, .int .i64 0, .int .i64 fu, .int .i64 (f.err : Nat)]) (by simp [results, Tryd.results27, go_sem, f0, f1, f2, f3, f4, f5, f6, f7, f8]) rfl ⟨_, rfl, ⟨fk, fn, fu, ft, rfl, HF0.out⟩, set9_below (Nat.le_refl _) B2.out _ _ _ _ _ _ _ _ _⟩
    | false =>
      obtain ⟨nl1, nl2⟩ := notLet hl
      cases hd : isDig (bt s 0) with
      | true =>
        rw [fst_dig h0 hd hc]
        have hdy := isDig_yes _ hd
        have d5 : decide ((48 : Int) ≤ ((bt s 0).toNat : Int)) = true := by simp; omega
        have d6 : decide (((bt s 0).toNat : Int) ≤ 57) = true := by simp; omega
        have d1 : decide ((97 : Int) ≤ ((bt s 0).toNat : Int)) = false := by simp; omega
        have d3 : decide ((65 : Int) ≤ ((bt s 0).toNat : Int)) = false := by simp; omega
        have HD := Lib.hid fun w1 => refDigs s w1 hsm
        have hz := tw_size isDig s 0
        rw [List.drop_zero] at hz
        have hlen := ba_len (s.data.toList.takeWhile isDig)
        have hval := valTo_all (s.data.toList.takeWhile isDig)
        have hall := dig_all s.data.toList
        have hpos : 1 ≤ (s.data.toList.takeWhile isDig).length := by rw [list_bt s h0]; exact tw_pos hd
        have hX : s.extract 0 (s.data.toList.takeWhile isDig).length = ⟨(s.data.toList.takeWhile isDig).toArray⟩ := by
          have := ext_take s 0 (s.data.toList.takeWhile isDig).length
          rw [Nat.zero_add, List.drop_zero, tw_take] at this
          exact this
        have had := AD_of _ hpos hall
        have hdl : (s.data.toList.takeWhile isDig).length ≤ s.size := by have := tw_len (p := isDig) s.data.toList; rw [len_size] at this; exact this
        generalize hds : s.data.toList.takeWhile isDig = ds at *
        have hil : (ds.length : Int) ≤ (s.size : Int) := by omega
        clear hsg hl hd hds
        by_cases hbig : maxInt < valL ds
        · have hN := fun w1 => refNumber_big ⟨ds.toArray⟩ w1 (by unfold maxLen; omega) had (by rw [hval]; unfold maxInt at hbig; omega)
          have HN := Lib.hid hN
          have F : intL ds = bad 6 := by unfold intL; rw [if_pos hbig]
          rw [F]
          clear hN had hval hbig F
          clear nl1 nl2
          focus
            go_enter Tryd.func27, Tryd.ntmps27
            go_wp2_with fail
            refine (HB.out _).mono ?_
            have Z := Lib.hid (FndZ.new w)
            have B := Lib.hid (show Below w.heap.size w (w.alloc (.cells #[.int .i64 0, .string ⟨#[]⟩, .int .i64 0, .bool false, .int .i64 0, .int .i64 0, .int .i64 0, .int .i64 0, .int .i64 0] 54)) from (Below.refl _ _).alloc (Nat.le_refl _) _)
            generalize w.alloc (.cells #[.int .i64 0, .string ⟨#[]⟩, .int .i64 0, .bool false, .int .i64 0, .int .i64 0, .int .i64 0, .int .i64 0, .int .i64 0] 54) = w0 at Z B
            rintro e w1 ⟨rfl, rfl⟩
            go_wp2_with fail
            refine (HD.out _).mono ?_
            rintro e w2 ⟨rfl, rfl⟩
            go_wp2_with fail
            refine (HN.out _).mono ?_
            rintro e w3 ⟨rfl, rfl⟩
            obtain ⟨f0, f1, f2, f3, f4, f5, f6, f7, f8, gf⟩ := Z.out.facts
            go_wp2_with fail
            exact bodyPost_ret (v := .agg #[.int .i64 3, .string ⟨#[]⟩, .int .i64 0, .bool false, .int .i64 0, .int .i64 0, .int .i64 0, .int .i64 (ds.length : Nat), .int .i64 6]) (by simp [results, Tryd.results27, go_sem, f0, f1, f2, f3, f4, f5, f6, f7, f8]) rfl ⟨_, rfl, ⟨3, 0, ds.length, _, rfl, fun h => by cases h⟩, set9_below (Nat.le_refl _) B.out _ _ _ _ _ _ _ _ _⟩
        · have hN := fun w1 => refNumber_ok ⟨ds.toArray⟩ w1 (by unfold maxLen; omega) had (by rw [hval]; unfold maxInt at hbig; omega)
          rw [hval] at hN
          have HN := Lib.hid hN
          have F : intL ds = ⟨3, [], valL ds, ds.length, 0⟩ := by unfold intL; rw [if_neg hbig]
          rw [F]
          clear hN had hval hbig F
          clear nl1 nl2
          focus
            go_enter Tryd.func27, Tryd.ntmps27
            go_wp2_with fail
            refine (HB.out _).mono ?_
            have Z := Lib.hid (FndZ.new w)
            have B := Lib.hid (show Below w.heap.size w (w.alloc (.cells #[.int .i64 0, .string ⟨#[]⟩, .int .i64 0, .bool false, .int .i64 0, .int .i64 0, .int .i64 0, .int .i64 0, .int .i64 0] 54)) from (Below.refl _ _).alloc (Nat.le_refl _) _)
            generalize w.alloc (.cells #[.int .i64 0, .string ⟨#[]⟩, .int .i64 0, .bool false, .int .i64 0, .int .i64 0, .int .i64 0, .int .i64 0, .int .i64 0] 54) = w0 at Z B
            rintro e w1 ⟨rfl, rfl⟩
            go_wp2_with fail
            refine (HD.out _).mono ?_
            rintro e w2 ⟨rfl, rfl⟩
            go_wp2_with fail
            refine (HN.out _).mono ?_
            rintro e w3 ⟨rfl, rfl⟩
            obtain ⟨f0, f1, f2, f3, f4, f5, f6, f7, f8, gf⟩ := Z.out.facts
            go_wp2_with fail
            exact bodyPost_ret (v := .agg #[.int .i64 3, .string ⟨#[]⟩, .int .i64 (valL ds : Nat), .bool false, .int .i64 0, .int .i64 0, .int .i64 0, .int .i64 (ds.length : Nat), .int .i64 0]) (by simp [results, Tryd.results27, go_sem, f0, f1, f2, f3, f4, f5, f6, f7, f8]) rfl ⟨_, rfl, fv_ok 3 (valL ds) ds.length [], set9_below (Nat.le_refl _) B.out _ _ _ _ _ _ _ _ _⟩
      | false =>
        have nd : decide ((48 : Int) ≤ ((bt s 0).toNat : Int)) = false ∨ (decide ((48 : Int) ≤ ((bt s 0).toNat : Int)) = true ∧ decide (((bt s 0).toNat : Int) ≤ 57) = false) := by
          rcases isDig_not _ hd with h | h
          · exact .inl (by simp; omega)
          · exact .inr ⟨by simp; omega, by simp; omega⟩
        have hch : (bt s 0).toNat = 39 ∨ (bt s 0).toNat = 35 := by
          rcases hsg with h | h | h | h | h
          · rw [hl] at h; cases h
          · rw [hc] at h; cases h
          · rw [hd] at h; cases h
          · exact .inl h
          · exact .inr h
        clear hsg
        rcases hch with h39 | h35
        · rw [fst_39 h0 (UInt8.toNat_inj.1 h39)]
          have HN := Lib.hid fun w1 => refQuote s w1 hs h0 h39
          generalize quoteL s.data.toList = f at HN ⊢
          have e1 : (((bt s 0).toNat : Int) == 39) = true := by rw [h39]; rfl
          have d1 : decide ((97 : Int) ≤ ((bt s 0).toNat : Int)) = false := by rw [h39]; rfl
          have d3 : decide ((65 : Int) ≤ ((bt s 0).toNat : Int)) = false := by rw [h39]; rfl
          have d5 : decide ((48 : Int) ≤ ((bt s 0).toNat : Int)) = false := by rw [h39]; rfl
          clear hl hd hc h39
          clear nl1 nl2 nd
          focus
            go_enter Tryd.func27, Tryd.ntmps27
            go_wp2_with fail
            refine (HB.out _).mono ?_
            have Z := Lib.hid (FndZ.new w)
            have B := Lib.hid (show Below w.heap.size w (w.alloc (.cells #[.int .i64 0, .string ⟨#[]⟩, .int .i64 0, .bool false, .int .i64 0, .int .i64 0, .int .i64 0, .int .i64 0, .int .i64 0] 54)) from (Below.refl _ _).alloc (Nat.le_refl _) _)
            generalize w.alloc (.cells #[.int .i64 0, .string ⟨#[]⟩, .int .i64 0, .bool false, .int .i64 0, .int .i64 0, .int .i64 0, .int .i64 0, .int .i64 0] 54) = w0 at Z B
            rintro e w1 ⟨rfl, rfl⟩
            go_wp2_with fail
            refine (HN.out _).mono ?_
            rintro e w2 ⟨v, rfl, hfv, b2⟩
            obtain ⟨fk, fn, fu, ft, rfl, hf0⟩ := hfv
            have Z2 := Lib.hid (Z.out.below b2)
            have B2 := Lib.hid (B.out.trans (b2.mono B.out.size))
            have HF0 := Lib.hid hf0
            obtain ⟨f0, f1, f2, f3, f4, f5, f6, f7, f8, gf⟩ := Z2.out.facts
            clear b2 hf0 Z B
            go_wp2_with fail
            exact bodyPost_ret (v := .agg #[.int .i64 fk, .string ft, .int .i64 fn, .bool false, .int .i64 0, .int .i64 0, .int .i64 0, .int .i64 fu, .int .i64 (f.err : Nat)]) (by simp [results, Tryd.results27, go_sem, f0, f1, f2, f3, f4, f5, f6, f7, f8]) rfl ⟨_, rfl, ⟨fk, fn, fu, ft, rfl, HF0.out⟩, set9_below (Nat.le_refl _) B2.out _ _ _ _ _ _ _ _ _⟩
        · rw [fst_35 h0 (UInt8.toNat_inj.1 h35)]
          have HN := Lib.hid fun w1 => refHash s w1 hs h0 h35
          generalize hashL ((s.data.toList.drop 1).takeWhile isDig) = f at HN ⊢
          have e1 : (((bt s 0).toNat : Int) == 39) = false := by rw [h35]; rfl
          have d1 : decide ((97 : Int) ≤ ((bt s 0).toNat : Int)) = false := by rw [h35]; rfl
          have d3 : decide ((65 : Int) ≤ ((bt s 0).toNat : Int)) = false := by rw [h35]; rfl
          have d5 : decide ((48 : Int) ≤ ((bt s 0).toNat : Int)) = false := by rw [h35]; rfl
          have e2 : (((bt s 0).toNat : Int) == 35) = true := by rw [h35]; rfl
          clear hl hd hc h35
          clear nl1 nl2 nd
          focus
            go_enter Tryd.func27, Tryd.ntmps27
            go_wp2_with fail
            refine (HB.out _).mono ?_
            have Z := Lib.hid (FndZ.new w)
            have B := Lib.hid (show Below w.heap.size w (w.alloc (.cells #[.int .i64 0, .string ⟨#[]⟩, .int .i64 0, .bool false, .int .i64 0, .int .i64 0, .int .i64 0, .int .i64 0, .int .i64 0] 54)) from (Below.refl _ _).alloc (Nat.le_refl _) _)
            generalize w.alloc (.cells #[.int .i64 0, .string ⟨#[]⟩, .int .i64 0, .bool false, .int .i64 0, .int .i64 0, .int .i64 0, .int .i64 0, .int .i64 0] 54) = w0 at Z B
            rintro e w1 ⟨rfl, rfl⟩
            go_wp2_with fail
            refine (HN.out _).mono ?_
            rintro e w2 ⟨v, rfl, hfv, b2⟩
            obtain ⟨fk, fn, fu, ft, rfl, hf0⟩ := hfv
            have Z2 := Lib.hid (Z.out.below b2)
            have B2 := Lib.hid (B.out.trans (b2.mono B.out.size))
            have HF0 := Lib.hid hf0
            obtain ⟨f0, f1, f2, f3, f4, f5, f6, f7, f8, gf⟩ := Z2.out.facts
            clear b2 hf0 Z B
            go_wp2_with fail
            exact bodyPost_ret (v := .agg #[.int .i64 fk, .string ft, .int .i64 fn, .bool false, .int .i64 0, .int .i64 0, .int .i64 0, .int .i64 fu, .int .i64 (f.err : Nat)]) (by simp [results, Tryd.results27, go_sem, f0, f1, f2, f3, f4, f5, f6, f7, f8]) rfl ⟨_, rfl, ⟨fk, fn, fu, ft, rfl, HF0.out⟩, set9_below (Nat.le_refl _) B2.out _ _ _ _ _ _ _ _ _⟩

end Go.Proofs.YtjdmaindoohmkaaDoor.P
