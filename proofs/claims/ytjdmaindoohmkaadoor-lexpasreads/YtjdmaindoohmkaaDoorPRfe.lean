/-
  The reference's First at a sign, walked.
-/
import Derived.Test.YtjdmaindoohmkaaDoorPRfd
namespace Go.Proofs.YtjdmaindoohmkaaDoor.P
open Go.RowKit Go.Sort

theorem find_take (l : List UInt8) {j : Nat} {g : List UInt8} (hg : signs[j]? = some g) (hn : ∀ i, i < j → ∀ x, signs[i]? = some x → Lib.hasPrefix l x = false) (hp : Lib.hasPrefix l g = true) : signL l = ⟨5, g, 0, g.length, 0⟩ := by
  have h : signs.find? (fun x => Lib.hasPrefix l x) = some g := by
    have e : signs = signs.take j ++ g :: signs.drop (j + 1) := by
      have hj := (List.getElem?_eq_some_iff.1 hg).1
      conv => lhs; rw [← List.take_append_drop j signs]
      rw [List.drop_eq_getElem_cons hj]
      congr 2
      exact (List.getElem?_eq_some_iff.1 hg).2
    rw [e, List.find?_append]
    have h1 : (signs.take j).find? (fun x => Lib.hasPrefix l x) = none := by
      rw [List.find?_eq_none]
      intro x hx
      obtain ⟨i, hi⟩ := List.getElem?_of_mem hx
      have hij : i < j := by have := (List.getElem?_eq_some_iff.1 hi).1; rw [List.length_take] at this; omega
      rw [List.getElem?_take_of_lt hij] at hi
      rw [hn i hij x hi]
      decide
    rw [h1, List.find?_cons, hp]
    rfl
  unfold signL
  rw [h]
theorem find_none (l : List UInt8) (hn : ∀ i, i < 18 → ∀ x, signs[i]? = some x → Lib.hasPrefix l x = false) : signL l = bad 5 := by
  have h : signs.find? (fun x => Lib.hasPrefix l x) = none := by
    rw [List.find?_eq_none]
    intro x hx
    obtain ⟨i, hi⟩ := List.getElem?_of_mem hx
    have hij : i < 18 := (List.getElem?_eq_some_iff.1 hi).1
    rw [hn i hij x hi]
    decide
  unfold signL
  rw [h]
theorem hp_ext (s : ByteArray) (g : List UInt8) : Lib.hasPrefix s.data.toList g = ((s.extract 0 g.length).toList == (ByteArray.mk g.toArray).toList) := by
  rw [hp_take, ByteArray.toList_eq, ByteArray.toList_eq]
  have := ext_take s 0 g.length
  rw [Nat.zero_add, List.drop_zero] at this
  rw [this]
set_option maxRecDepth 100000 in
set_option maxHeartbeats 4000000 in
theorem first_sign (s : ByteArray) (w : World) (hs : s.size ≤ 100000) (h0 : 0 < s.size) (hc : (bt s 0 == 123) = false) (hl : isLet (bt s 0) = false) (hd : isDig (bt s 0) = false) (h39 : (bt s 0).toNat ≠ 39) (h35 : (bt s 0).toNat ≠ 35) : Calls Tryd.prog 27 #[.int .i64 0, .string s] w (FPost (tokL s.data.toList) w) := by
  rw [fst_sign h0 hc hd hl (by rw [toNat_39]; simpa using h39) (by rw [show (bt s 0 == 35) = (bt s 0 == UInt8.ofNat 35) from rfl, toNat_eq _ 35 (by decide)]; simpa using h35)]
  generalize hf : signL s.data.toList = f
  have HF := Lib.hid hf
  have hsm : s.size ≤ maxLen := by unfold maxLen; omega
  have hb0 := bt_eq s 0 h0
  have hlb := UInt8.toNat_lt (bt s 0)
  have hB := fun w1 => refBeg_0 s w1
  rw [beg_bt s h0, hc] at hB
  have HB := Lib.hid hB
  obtain ⟨nl1, nl2⟩ := notLet hl
  have nd : decide ((48 : Int) ≤ ((bt s 0).toNat : Int)) = false ∨ (decide ((48 : Int) ≤ ((bt s 0).toNat : Int)) = true ∧ decide (((bt s 0).toNat : Int) ≤ 57) = false) := by
    rcases isDig_not _ hd with h | h
    · exact .inl (by simp; omega)
    · exact .inr ⟨by simp; omega, by simp; omega⟩
  have e1 : (((bt s 0).toNat : Int) == 39) = false := by simp; omega
  have e2 : (((bt s 0).toNat : Int) == 35) = false := by simp; omega
  clear hf hB hc hl hd h39 h35
  have ways : ((decide ((97 : Int) ≤ ((bt s 0).toNat : Int)) = false ∧ decide ((65 : Int) ≤ ((bt s 0).toNat : Int)) = false) ∧ (decide ((48 : Int) ≤ ((bt s 0).toNat : Int)) = false ∨ (decide ((48 : Int) ≤ ((bt s 0).toNat : Int)) = true ∧ decide (((bt s 0).toNat : Int) ≤ 57) = false))) ∨
      ((decide ((48 : Int) ≤ ((bt s 0).toNat : Int)) = true ∧ decide (((bt s 0).toNat : Int) ≤ 57) = false ∧ decide ((65 : Int) ≤ ((bt s 0).toNat : Int)) = true ∧ decide (((bt s 0).toNat : Int) ≤ 90) = false) ∧ (decide ((97 : Int) ≤ ((bt s 0).toNat : Int)) = false ∨ (decide ((97 : Int) ≤ ((bt s 0).toNat : Int)) = true ∧ decide (((bt s 0).toNat : Int) ≤ 122) = false))) := by
    rcases nl2 with d3 | ⟨d3, d4⟩
    · left
      refine ⟨⟨?_, d3⟩, nd⟩
      simp at d3 ⊢
      omega
    · right
      refine ⟨⟨?_, ?_, d3, d4⟩, nl1⟩
      · simp at d3 d4 ⊢
        omega
      · simp at d3 d4 ⊢
        omega
  clear nl1 nl2 nd
  rcases ways with ⟨⟨d1, d3⟩, d5 | ⟨d5, d6⟩⟩ | ⟨⟨d5, d6, d3, d4⟩, d1 | ⟨d1, d2⟩⟩
  all_goals
    go_enter Tryd.func27, Tryd.ntmps27
    go_wp2_with fail
    refine (HB.out _).mono ?_
    have Z := Lib.hid (FndZ.new w)
    have B := Lib.hid (show Below w.heap.size w (w.alloc (.cells #[.int .i64 0, .string ⟨#[]⟩, .int .i64 0, .bool false, .int .i64 0, .int .i64 0, .int .i64 0, .int .i64 0, .int .i64 0] 54)) from (Below.refl _ _).alloc (Nat.le_refl _) _)
    generalize w.alloc (.cells #[.int .i64 0, .string ⟨#[]⟩, .int .i64 0, .bool false, .int .i64 0, .int .i64 0, .int .i64 0, .int .i64 0, .int .i64 0] 54) = w0 at Z B
    rintro e w1 ⟨rfl, rfl⟩
    go_wp2_with fail
    refine (refSigns _).mono ?_
    rintro e w2 ⟨rfl, hw2⟩
    have ST := Lib.hid (show IsStrs w2 (some ⟨w0.heap.size, 0, none⟩) 18 18 signsA by rw [hw2]; exact lit_strs _ signsA (by decide) (by decide))
    have Z2 := Lib.hid (show FndZ w2 w.heap.size by rw [hw2]; exact Z.out.below ((Below.refl _ _).alloc (Nat.le_refl _) _))
    have B2 := Lib.hid (show Below w.heap.size w w2 by rw [hw2]; exact B.out.alloc B.out.size _)
    clear hw2 Z B
    go_wp2_with fail
    go_loopw [13] (fun i wr => ∃ j : Nat, j ≤ 18 ∧ i = .int .i64 j ∧ (∀ i, i < j → ∀ x, signs[i]? = some x → Lib.hasPrefix s.data.toList x = false) ∧ ∃ m, wr = w2.drewN m) (fun i _ => 18 - (intOf i).toNat)
    case atStart => exact ⟨0, by omega, rfl, fun i h => by omega, 0, rfl⟩
    case round =>
      obtain ⟨j, hj, rfl, hno, m, rfl⟩ := hrel
      have NO := Lib.hid hno
      clear hno
      by_cases hlt : j < 18
      · obtain ⟨g, hg, hgA, hg2⟩ := signsA_at j hlt
        obtain ⟨b, o, x, hbo, hx, hxs, hcell⟩ := ST.out.at hlt
        cases hbo
        obtain rfl : x = ⟨g.toArray⟩ := Option.some.inj (hx.symm.trans hgA)
        rw [Nat.zero_add] at hcell
        have HG := Lib.hid hg
        have hgl := ba_len g
        have hpx := hp_ext s g
        have hg1 := (signs_len g (List.mem_of_getElem? hg)).1
        have FN := Lib.hid (fun hp => find_take s.data.toList hg NO.out hp)
        rw [← hgl] at hpx
        clear hg hgA hx
        cases hp : Lib.hasPrefix s.data.toList g with
        | true =>
          have hpl := hp_len hp
          rw [len_size, ← hgl] at hpl
          have F := FN.out hp
          rw [hp] at hpx
          obtain rfl : f = ⟨5, g, 0, g.length, 0⟩ := by rw [← HF.out]; exact F
          have HGL := Lib.hid hgl
          generalize hG : (ByteArray.mk g.toArray) = G at *
          have HGG := Lib.hid hG
          have z1 : decide ((G.size : Int) ≤ (s.size : Int)) = true := by simp; omega
          have z2 : decide (G.size ≤ s.size) = true := by simp; omega
          have z3 : (G.size : Int) ≤ (s.size : Int) := by omega
          have hpx2 := hpx.symm
          obtain ⟨f0, f1, f2, f3, f4, f5, f6, f7, f8, gf⟩ := Z2.out.facts
          clear F hp hgl hG hpx FN
          go_wp2_with fail
          go_quiet (fail)
          go_wp2_with fail
          go_region
          go_wp2_with fail
          exact bodyPost_ret (v := .agg #[.int .i64 5, .string G, .int .i64 0, .bool false, .int .i64 0, .int .i64 0, .int .i64 0, .int .i64 (G.size : Nat), .int .i64 0]) (by simp [results, Tryd.results27, go_sem, f0, f1, f2, f3, f4, f5, f6, f7, f8]) rfl ⟨_, rfl, ⟨5, 0, G.size, G, rfl, fun _ => ⟨rfl, HGG.out.symm, rfl, by rw [HGL.out]⟩⟩, set9_below (Nat.le_refl _) (below_drewN B2.out _) _ _ _ _ _ _ _ _ _⟩
        | false =>
          rw [hp] at hpx
          have NO2 := Lib.hid (show ∀ i, i < j + 1 → ∀ x, signs[i]? = some x → Lib.hasPrefix s.data.toList x = false by
            intro i hi x hx
            rcases Nat.lt_or_ge i j with h | h
            · exact NO.out i h x hx
            · obtain rfl : i = j := by omega
              obtain rfl : g = x := Option.some.inj (HG.out.symm.trans hx)
              exact hp)
          generalize hG : (ByteArray.mk g.toArray) = G at *
          have hpx2 := hpx.symm
          clear hp hG hpx FN hgl
          by_cases hz : G.size ≤ s.size
          · have z1 : decide ((G.size : Int) ≤ (s.size : Int)) = true := by simp; omega
            have z2 : decide (G.size ≤ s.size) = true := by simp; omega
            have z3 : (G.size : Int) ≤ (s.size : Int) := by omega
            go_wp2_with fail
            go_quiet (fail)
            go_wp2_with fail
            go_roundw
            case rel => exact ⟨j + 1, by omega, by go_num, NO2.out, _, rfl⟩
            case measure => simp [intOf]; omega
          · have z1 : decide ((G.size : Int) ≤ (s.size : Int)) = false := by simp; omega
            have z2 : decide (G.size ≤ s.size) = false := by simp; omega
            go_wp2_with fail
            go_quiet (fail)
            go_wp2_with fail
            go_roundw
            case rel => exact ⟨j + 1, by omega, by go_num, NO2.out, _, rfl⟩
            case measure => simp [intOf]; omega
      · obtain rfl : j = 18 := by omega
        obtain rfl : f = bad 5 := by rw [← HF.out]; exact find_none _ NO.out
        obtain ⟨f0, f1, f2, f3, f4, f5, f6, f7, f8, gf⟩ := Z2.out.facts
        go_wp2_with fail
        exact bodyPost_ret (v := .agg #[.int .i64 0, .string ⟨#[]⟩, .int .i64 0, .bool false, .int .i64 0, .int .i64 0, .int .i64 0, .int .i64 0, .int .i64 5]) (by simp [results, Tryd.results27, go_sem, f0, f1, f2, f3, f4, f5, f6, f7, f8]) rfl ⟨_, rfl, fv_bad 5, set9_below (Nat.le_refl _) (below_drewN B2.out m) _ _ _ _ _ _ _ _ _⟩
theorem first_any (s : ByteArray) (w : World) (hs : s.size ≤ 100000) (h0 : 0 < s.size) : Calls Tryd.prog 27 #[.int .i64 0, .string s] w (FPost (tokL s.data.toList) w) := by
  cases hl : isLet (bt s 0) with
  | true => exact first_some s w hs h0 (.inl hl)
  | false =>
    cases hc : bt s 0 == 123 with
    | true => exact first_some s w hs h0 (.inr (.inl hc))
    | false =>
      cases hd : isDig (bt s 0) with
      | true => exact first_some s w hs h0 (.inr (.inr (.inl hd)))
      | false =>
        by_cases h39 : (bt s 0).toNat = 39
        · exact first_some s w hs h0 (.inr (.inr (.inr (.inl h39))))
        · by_cases h35 : (bt s 0).toNat = 35
          · exact first_some s w hs h0 (.inr (.inr (.inr (.inr h35))))
          · exact first_sign s w hs h0 hc hl hd h39 h35
end Go.Proofs.YtjdmaindoohmkaaDoor.P
