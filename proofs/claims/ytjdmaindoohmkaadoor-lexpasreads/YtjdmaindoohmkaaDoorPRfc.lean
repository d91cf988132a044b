/-
  The reference's char, walked.
-/
import Derived.Test.YtjdmaindoohmkaaDoorPRfb
import Derived.Test.YtjdmaindoohmkaaDoorPBln
namespace Go.Proofs.YtjdmaindoohmkaaDoor.P
open Go.RowKit Go.Sort

theorem getD_bt (s : ByteArray) (i : Nat) : s.data.toList.getD i 0 = bt s i := rfl
theorem toNat_39 (c : UInt8) : (c == 39) = decide (c.toNat = 39) := by
  have := all8 (q := fun c => (c == 39) == decide (c.toNat = 39)) (by decide +kernel) c
  simpa using this
theorem quote_no {s : ByteArray} (hq : Lib.hasPrefix s.data.toList [39, 39, 39, 39] = false) (h : ¬ 32 ≤ (bt s 1).toNat ∨ ¬ (bt s 1).toNat ≤ 126 ∨ (bt s 1).toNat = 39 ∨ (bt s 2).toNat ≠ 39) : quoteL s.data.toList = bad 7 := by
  unfold quoteL
  rw [hq, if_neg (by decide), getD_bt, getD_bt, if_neg]
  unfold visB
  rw [toNat_39, toNat_39]
  simp
  omega
theorem quote_yes {s : ByteArray} (hq : Lib.hasPrefix s.data.toList [39, 39, 39, 39] = false) (h1 : 32 ≤ (bt s 1).toNat) (h2 : (bt s 1).toNat ≤ 126) (h3 : (bt s 1).toNat ≠ 39) (h4 : (bt s 2).toNat = 39) : quoteL s.data.toList = ⟨4, [], (bt s 1).toNat, 3, 0⟩ := by
  unfold quoteL
  rw [hq, if_neg (by decide), getD_bt, getD_bt, if_pos]
  unfold visB
  rw [toNat_39, toNat_39, decide_eq_true h1, decide_eq_true h2, decide_eq_false h3, decide_eq_true h4]
  rfl
theorem hp_take (l g : List UInt8) : Lib.hasPrefix l g = (l.take g.length == g) := by
  unfold Lib.hasPrefix
  rw [Bool.eq_iff_iff, List.isPrefixOf_iff_prefix, beq_iff_eq, List.prefix_iff_eq_take]
  exact ⟨fun h => h.symm, fun h => h.symm⟩
set_option maxRecDepth 100000 in
set_option maxHeartbeats 4000000 in
theorem refQuote (s : ByteArray) (w : World) (hs : s.size ≤ 100000) (h0 : 0 < s.size) (hc : (bt s 0).toNat = 39) : Calls Tryd.prog 46 #[.int .i64 0, .string s] w (FPost (quoteL s.data.toList) w) := by
  have hb0 := bt_eq s 0 h0
  have d0 : (((bt s 0).toNat : Int) == 35) = false := by rw [hc]; rfl
  clear hc
  by_cases h4 : 4 ≤ s.size
  · have z4 : decide ((4 : Int) ≤ (s.size : Int)) = true := by simp; omega
    have z4' : decide (4 ≤ s.size) = true := by simp; omega
    have hi4 : (4 : Int) ≤ (s.size : Int) := by omega
    have hE := ext_take s 0 4
    have hpt := hp_take s.data.toList [39, 39, 39, 39]
    cases hq : Lib.hasPrefix s.data.toList [39, 39, 39, 39] with
    | true =>
      rw [hq] at hpt
      have hE2 : s.extract 0 4 = ⟨#[39, 39, 39, 39]⟩ := by
        rw [show (4 : Nat) = 0 + 4 from rfl, hE, List.drop_zero]
        have : s.data.toList.take 4 = [39, 39, 39, 39] := by have := hpt.symm; simpa using this
        rw [this]
      rw [quoteL_4 hq]
      clear hq hpt hE
      go_enter Tryd.func46, Tryd.ntmps46
      go_wp2_with fail
      exact bodyPost_ret (v := .agg #[.int .i64 4, .string ⟨#[]⟩, .int .i64 39, .bool false, .int .i64 0, .int .i64 0, .int .i64 0, .int .i64 4, .int .i64 0]) (by simp [results, Tryd.results46, go_sem]) rfl ⟨_, rfl, fv_ok 4 39 4 [], (Below.refl _ _).alloc (Nat.le_refl _) _⟩
    | false =>
      rw [hq] at hpt
      have hne : s.extract 0 4 ≠ ⟨#[39, 39, 39, 39]⟩ := by
        rw [show (4 : Nat) = 0 + 4 from rfl, hE, List.drop_zero]
        intro h
        have h2 := congrArg (fun b : ByteArray => b.data.toList) h
        have h3 : s.data.toList.take 4 = [39, 39, 39, 39] := by simpa using h2
        have h4 : (s.data.toList.take 4 == [39, 39, 39, 39]) = false := hpt.symm
        rw [h3] at h4
        cases h4
      have hE3 : ((s.extract 0 4).toList == (ByteArray.mk #[39, 39, 39, 39]).toList) = false := (beq_false _ _).2 hne
      have hE4 : ((s.extract 0 4).toList == [39, 39, 39, 39]) = false := by rw [show ([39, 39, 39, 39] : List UInt8) = (ByteArray.mk #[39, 39, 39, 39]).toList by rw [ByteArray.toList_eq]]; exact hE3
      have hE5 : ¬ (s.extract 0 4).toList = [39, 39, 39, 39] := by simpa using hE4
      clear hne hpt hE
      have h3 : 3 ≤ s.size := by omega
      have z3 : decide ((3 : Int) ≤ (s.size : Int)) = true := by simp; omega
      have z3' : decide (3 ≤ s.size) = true := by simp; omega
      have hb1 := bt_eq s 1 (by omega)
      have hb2 := bt_eq s 2 (by omega)
      by_cases v1 : 32 ≤ (bt s 1).toNat
      · have e1 : decide ((32 : Int) ≤ ((bt s 1).toNat : Int)) = true := by simp; omega
        by_cases v2 : (bt s 1).toNat ≤ 126
        · have e2 : decide (((bt s 1).toNat : Int) ≤ 126) = true := by simp; omega
          by_cases v3 : (bt s 1).toNat = 39
          · have e3 : (((bt s 1).toNat : Int) != 39) = false := by rw [v3]; rfl
            rw [quote_no (s := s) hq (.inr (.inr (.inl v3)))]
            clear v1 v2 v3
            go_enter Tryd.func46, Tryd.ntmps46
            go_wp2_with fail
            exact bodyPost_ret (v := .agg #[.int .i64 0, .string ⟨#[]⟩, .int .i64 0, .bool false, .int .i64 0, .int .i64 0, .int .i64 0, .int .i64 0, .int .i64 7]) (by simp [results, Tryd.results46, go_sem]) rfl ⟨_, rfl, fv_bad 7, (Below.refl _ _).alloc (Nat.le_refl _) _⟩
          · have e3 : (((bt s 1).toNat : Int) != 39) = true := by simp; omega
            by_cases v4 : (bt s 2).toNat = 39
            · have e4 : (((bt s 2).toNat : Int) == 39) = true := by rw [v4]; rfl
              rw [quote_yes hq v1 v2 v3 v4]
              clear v3 v4
              go_enter Tryd.func46, Tryd.ntmps46
              go_wp2_with fail
              exact bodyPost_ret (v := .agg #[.int .i64 4, .string ⟨#[]⟩, .int .i64 ((bt s 1).toNat : Nat), .bool false, .int .i64 0, .int .i64 0, .int .i64 0, .int .i64 3, .int .i64 0]) (by simp [results, Tryd.results46, go_sem]) rfl ⟨_, rfl, fv_ok 4 (bt s 1).toNat 3 [], (Below.refl _ _).alloc (Nat.le_refl _) _⟩
            · have e4 : (((bt s 2).toNat : Int) == 39) = false := by simp; omega
              rw [quote_no (s := s) hq (.inr (.inr (.inr v4)))]
              clear v1 v2 v3 v4
              go_enter Tryd.func46, Tryd.ntmps46
              go_wp2_with fail
              exact bodyPost_ret (v := .agg #[.int .i64 0, .string ⟨#[]⟩, .int .i64 0, .bool false, .int .i64 0, .int .i64 0, .int .i64 0, .int .i64 0, .int .i64 7]) (by simp [results, Tryd.results46, go_sem]) rfl ⟨_, rfl, fv_bad 7, (Below.refl _ _).alloc (Nat.le_refl _) _⟩
        · have e2 : decide (((bt s 1).toNat : Int) ≤ 126) = false := by simp; omega
          rw [quote_no (s := s) hq (.inr (.inl v2))]
          clear v1 v2
          go_enter Tryd.func46, Tryd.ntmps46
          go_wp2_with fail
          exact bodyPost_ret (v := .agg #[.int .i64 0, .string ⟨#[]⟩, .int .i64 0, .bool false, .int .i64 0, .int .i64 0, .int .i64 0, .int .i64 0, .int .i64 7]) (by simp [results, Tryd.results46, go_sem]) rfl ⟨_, rfl, fv_bad 7, (Below.refl _ _).alloc (Nat.le_refl _) _⟩
      · have e1 : decide ((32 : Int) ≤ ((bt s 1).toNat : Int)) = false := by simp; omega
        rw [quote_no (s := s) hq (.inl v1)]
        clear v1
        go_enter Tryd.func46, Tryd.ntmps46
        go_wp2_with fail
        exact bodyPost_ret (v := .agg #[.int .i64 0, .string ⟨#[]⟩, .int .i64 0, .bool false, .int .i64 0, .int .i64 0, .int .i64 0, .int .i64 0, .int .i64 7]) (by simp [results, Tryd.results46, go_sem]) rfl ⟨_, rfl, fv_bad 7, (Below.refl _ _).alloc (Nat.le_refl _) _⟩
  · have z4 : decide ((4 : Int) ≤ (s.size : Int)) = false := by simp; omega
    have z4' : decide (4 ≤ s.size) = false := by simp; omega
    have hq : Lib.hasPrefix s.data.toList [39, 39, 39, 39] = false := by
      cases h : Lib.hasPrefix s.data.toList [39, 39, 39, 39] with
      | false => rfl
      | true => have := hp_len h; rw [len_size] at this; exact absurd this h4
    by_cases h3 : 3 ≤ s.size
    · have z3 : decide ((3 : Int) ≤ (s.size : Int)) = true := by simp; omega
      have z3' : decide (3 ≤ s.size) = true := by simp; omega
      have hb1 := bt_eq s 1 (by omega)
      have hb2 := bt_eq s 2 (by omega)
      by_cases v1 : 32 ≤ (bt s 1).toNat
      · have e1 : decide ((32 : Int) ≤ ((bt s 1).toNat : Int)) = true := by simp; omega
        by_cases v2 : (bt s 1).toNat ≤ 126
        · have e2 : decide (((bt s 1).toNat : Int) ≤ 126) = true := by simp; omega
          by_cases v3 : (bt s 1).toNat = 39
          · have e3 : (((bt s 1).toNat : Int) != 39) = false := by rw [v3]; rfl
            rw [quote_no (s := s) hq (.inr (.inr (.inl v3)))]
            clear v1 v2 v3
            go_enter Tryd.func46, Tryd.ntmps46
            go_wp2_with fail
            exact bodyPost_ret (v := .agg #[.int .i64 0, .string ⟨#[]⟩, .int .i64 0, .bool false, .int .i64 0, .int .i64 0, .int .i64 0, .int .i64 0, .int .i64 7]) (by simp [results, Tryd.results46, go_sem]) rfl ⟨_, rfl, fv_bad 7, (Below.refl _ _).alloc (Nat.le_refl _) _⟩
          · have e3 : (((bt s 1).toNat : Int) != 39) = true := by simp; omega
            by_cases v4 : (bt s 2).toNat = 39
            · have e4 : (((bt s 2).toNat : Int) == 39) = true := by rw [v4]; rfl
              rw [quote_yes hq v1 v2 v3 v4]
              clear v3 v4
              go_enter Tryd.func46, Tryd.ntmps46
              go_wp2_with fail
              exact bodyPost_ret (v := .agg #[.int .i64 4, .string ⟨#[]⟩, .int .i64 ((bt s 1).toNat : Nat), .bool false, .int .i64 0, .int .i64 0, .int .i64 0, .int .i64 3, .int .i64 0]) (by simp [results, Tryd.results46, go_sem]) rfl ⟨_, rfl, fv_ok 4 (bt s 1).toNat 3 [], (Below.refl _ _).alloc (Nat.le_refl _) _⟩
            · have e4 : (((bt s 2).toNat : Int) == 39) = false := by simp; omega
              rw [quote_no (s := s) hq (.inr (.inr (.inr v4)))]
              clear v1 v2 v3 v4
              go_enter Tryd.func46, Tryd.ntmps46
              go_wp2_with fail
              exact bodyPost_ret (v := .agg #[.int .i64 0, .string ⟨#[]⟩, .int .i64 0, .bool false, .int .i64 0, .int .i64 0, .int .i64 0, .int .i64 0, .int .i64 7]) (by simp [results, Tryd.results46, go_sem]) rfl ⟨_, rfl, fv_bad 7, (Below.refl _ _).alloc (Nat.le_refl _) _⟩
        · have e2 : decide (((bt s 1).toNat : Int) ≤ 126) = false := by simp; omega
          rw [quote_no (s := s) hq (.inr (.inl v2))]
          clear v1 v2
          go_enter Tryd.func46, Tryd.ntmps46
          go_wp2_with fail
          exact bodyPost_ret (v := .agg #[.int .i64 0, .string ⟨#[]⟩, .int .i64 0, .bool false, .int .i64 0, .int .i64 0, .int .i64 0, .int .i64 0, .int .i64 7]) (by simp [results, Tryd.results46, go_sem]) rfl ⟨_, rfl, fv_bad 7, (Below.refl _ _).alloc (Nat.le_refl _) _⟩
      · have e1 : decide ((32 : Int) ≤ ((bt s 1).toNat : Int)) = false := by simp; omega
        rw [quote_no (s := s) hq (.inl v1)]
        clear v1
        go_enter Tryd.func46, Tryd.ntmps46
        go_wp2_with fail
        exact bodyPost_ret (v := .agg #[.int .i64 0, .string ⟨#[]⟩, .int .i64 0, .bool false, .int .i64 0, .int .i64 0, .int .i64 0, .int .i64 0, .int .i64 7]) (by simp [results, Tryd.results46, go_sem]) rfl ⟨_, rfl, fv_bad 7, (Below.refl _ _).alloc (Nat.le_refl _) _⟩
    · have z3 : decide ((3 : Int) ≤ (s.size : Int)) = false := by simp; omega
      have z3' : decide (3 ≤ s.size) = false := by simp; omega
      rw [quote_no (s := s) hq (.inr (.inr (.inr (by rw [bt_out s 2 (by omega)]; decide))))]
      clear h3
      go_enter Tryd.func46, Tryd.ntmps46
      go_wp2_with fail
      exact bodyPost_ret (v := .agg #[.int .i64 0, .string ⟨#[]⟩, .int .i64 0, .bool false, .int .i64 0, .int .i64 0, .int .i64 0, .int .i64 0, .int .i64 7]) (by simp [results, Tryd.results46, go_sem]) rfl ⟨_, rfl, fv_bad 7, (Below.refl _ _).alloc (Nat.le_refl _) _⟩

theorem val_lt2 (l : List UInt8) (h : ∀ c ∈ l, 48 ≤ c.toNat ∧ c.toNat ≤ 57) (h3 : ¬ 3 < l.length) : valL l ≤ 1000 := by
  have hv := val_lt l h
  have : l.length = 0 ∨ l.length = 1 ∨ l.length = 2 ∨ l.length = 3 := by omega
  rcases this with e | e | e | e <;> rw [e] at hv <;> omega
set_option maxRecDepth 100000 in
set_option maxHeartbeats 4000000 in
theorem refHash (s : ByteArray) (w : World) (hs : s.size ≤ 100000) (h0 : 0 < s.size) (hc : (bt s 0).toNat = 35) : Calls Tryd.prog 46 #[.int .i64 0, .string s] w (FPost (hashL ((s.data.toList.drop 1).takeWhile isDig)) w) := by
  have hb0 := bt_eq s 0 h0
  have d0 : (((bt s 0).toNat : Int) == 35) = true := by rw [hc]; rfl
  have hD := fun w1 => refDigs (restOf s 1) w1 (by rw [restOf_size]; unfold maxLen; omega)
  rw [restOf_l, ← ext_rest] at hD
  have hz := tw_size isDig s 1
  have hlen := ba_len ((s.data.toList.drop 1).takeWhile isDig)
  have hval := valTo_all ((s.data.toList.drop 1).takeWhile isDig)
  have hall := dig_all (s.data.toList.drop 1)
  have hle : 1 + ((s.data.toList.drop 1).takeWhile isDig).length ≤ s.size := by
    have := tw_len (p := isDig) (s.data.toList.drop 1)
    rw [List.length_drop, len_size] at this
    omega
  have hX : s.extract 1 (1 + ((s.data.toList.drop 1).takeWhile isDig).length) = ⟨((s.data.toList.drop 1).takeWhile isDig).toArray⟩ := by rw [ext_take, tw_take]
  have hi1 : (1 : Int) ≤ (s.size : Int) := by omega
  have HD := Lib.hid hD
  clear hD hc
  generalize hds : (s.data.toList.drop 1).takeWhile isDig = ds at *
  clear hds
  have hil : (1 : Int) + (ds.length : Int) ≤ (s.size : Int) := by omega
  have hil0 : (1 : Int) ≤ (1 : Int) + (ds.length : Int) := by omega
  have htn : ((1 : Int) + (ds.length : Int)).toNat = 1 + ds.length := by omega
  by_cases k0 : ds.length = 0
  · rw [hash_0 k0]
    have e0 : ((ds.length : Int) == 0) = true := by rw [k0]; rfl
    clear k0 hval hX
    go_enter Tryd.func46, Tryd.ntmps46
    go_wp2_with fail
    refine (HD.out _).mono ?_
    rintro e w1 ⟨rfl, rfl⟩
    go_wp2_with fail
    exact bodyPost_ret (v := .agg #[.int .i64 0, .string ⟨#[]⟩, .int .i64 0, .bool false, .int .i64 0, .int .i64 0, .int .i64 0, .int .i64 0, .int .i64 7]) (by simp [results, Tryd.results46, go_sem]) rfl ⟨_, rfl, fv_bad 7, (Below.refl _ _).alloc (Nat.le_refl _) _⟩
  · have e0 : ((ds.length : Int) == 0) = false := by rw [beq_eq_false_iff_ne]; omega
    by_cases k3 : 3 < ds.length
    · rw [hash_3 k3]
      have e3 : decide ((3 : Int) < (ds.length : Int)) = true := by simp; omega
      clear k0 hval hX
      go_enter Tryd.func46, Tryd.ntmps46
      go_wp2_with fail
      refine (HD.out _).mono ?_
      rintro e w1 ⟨rfl, rfl⟩
      go_wp2_with fail
      exact bodyPost_ret (v := .agg #[.int .i64 0, .string ⟨#[]⟩, .int .i64 0, .bool false, .int .i64 0, .int .i64 0, .int .i64 0, .int .i64 0, .int .i64 7]) (by simp [results, Tryd.results46, go_sem]) rfl ⟨_, rfl, fv_bad 7, (Below.refl _ _).alloc (Nat.le_refl _) _⟩
    · have e3 : decide ((3 : Int) < (ds.length : Int)) = false := by simp; omega
      have hvl := val_lt2 ds hall k3
      have had := AD_of ds (by omega) hall
      have hN := fun w1 => refNumber_ok ⟨ds.toArray⟩ w1 (by unfold maxLen; omega) had (by rw [hval]; omega)
      rw [hval] at hN
      have HN := Lib.hid hN
      clear hN had hval
      by_cases k5 : 255 < valL ds
      · rw [hash_255 k5]
        have e5 : decide ((255 : Int) < ((valL ds : Nat) : Int)) = true := by simp; omega
        clear k0 k3 k5
        go_enter Tryd.func46, Tryd.ntmps46
        go_wp2_with fail
        refine (HD.out _).mono ?_
        rintro e w1 ⟨rfl, rfl⟩
        go_wp2_with fail
        refine (HN.out _).mono ?_
        rintro e w2 ⟨rfl, rfl⟩
        go_wp2_with fail
        exact bodyPost_ret (v := .agg #[.int .i64 0, .string ⟨#[]⟩, .int .i64 0, .bool false, .int .i64 0, .int .i64 0, .int .i64 0, .int .i64 0, .int .i64 7]) (by simp [results, Tryd.results46, go_sem]) rfl ⟨_, rfl, fv_bad 7, (Below.refl _ _).alloc (Nat.le_refl _) _⟩
      · rw [hash_good k0 (by omega) (by omega)]
        have e5 : decide ((255 : Int) < ((valL ds : Nat) : Int)) = false := by simp; omega
        clear k0 k3 k5
        go_enter Tryd.func46, Tryd.ntmps46
        go_wp2_with fail
        refine (HD.out _).mono ?_
        rintro e w1 ⟨rfl, rfl⟩
        go_wp2_with fail
        refine (HN.out _).mono ?_
        rintro e w2 ⟨rfl, rfl⟩
        go_wp2_with fail
        exact bodyPost_ret (v := .agg #[.int .i64 4, .string ⟨#[]⟩, .int .i64 (valL ds : Nat), .bool false, .int .i64 0, .int .i64 0, .int .i64 0, .int .i64 ((1 + ds.length : Nat) : Int), .int .i64 0]) (by simp [results, Tryd.results46, go_sem]) rfl ⟨_, rfl, fv_ok 4 (valL ds) (1 + ds.length) [], (Below.refl _ _).alloc (Nat.le_refl _) _⟩
end Go.Proofs.YtjdmaindoohmkaaDoor.P
