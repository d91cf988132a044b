/-
  The reference's name, walked.
-/
import Derived.Test.YtjdmaindoohmkaaGreatDoorRfa
namespace Go.Proofs.YtjdmaindoohmkaaGreatDoor
open Go.RowKit Go.Sort

/-- What was found, zero, lies in the block b. -/
structure FndZ (w : World) (b : Nat) : Prop where
  blk : w.heap[b]? = some (.cells #[.int .i64 0, .string ⟨#[]⟩, .int .i64 0, .bool false, .int .i64 0, .int .i64 0, .int .i64 0, .int .i64 0, .int .i64 0] 55)
theorem FndZ.lt {w : World} {b : Nat} (h : FndZ w b) : b < w.heap.size := heap_lt h.blk
theorem FndZ.facts {w : World} {b : Nat} (h : FndZ w b) : w.cell? ⟨b, 0, none⟩ = some (.int .i64 0) ∧ w.cell? ⟨b, 1, none⟩ = some (.string ⟨#[]⟩) ∧ w.cell? ⟨b, 2, none⟩ = some (.int .i64 0) ∧ w.cell? ⟨b, 3, none⟩ = some (.bool false) ∧ w.cell? ⟨b, 4, none⟩ = some (.int .i64 0) ∧ w.cell? ⟨b, 5, none⟩ = some (.int .i64 0) ∧ w.cell? ⟨b, 6, none⟩ = some (.int .i64 0) ∧ w.cell? ⟨b, 7, none⟩ = some (.int .i64 0) ∧ w.cell? ⟨b, 8, none⟩ = some (.int .i64 0) ∧ ∀ o, w.frozen? ⟨b, o, none⟩ = false := by
  have := h.blk
  refine ⟨?_, ?_, ?_, ?_, ?_, ?_, ?_, ?_, ?_, fun o => ?_⟩ <;> simp [World.cell?, World.frozen?, this]
theorem FndZ.new (w : World) : FndZ (w.alloc (.cells #[.int .i64 0, .string ⟨#[]⟩, .int .i64 0, .bool false, .int .i64 0, .int .i64 0, .int .i64 0, .int .i64 0, .int .i64 0] 55)) w.heap.size := ⟨heap_new _ _⟩
theorem FndZ.below {w w' : World} {b : Nat} (h : FndZ w b) (ho : Below w.heap.size w w') : FndZ w' b := ⟨(ho.block b h.lt).trans h.blk⟩
def set9 (w : World) (b : Nat) (v0 v1 v2 v3 v4 v5 v6 v7 v8 : Value) : World := (set7 w b v0 v1 v2 v3 v4 v5 v6 |>.setCell ⟨b, 7, none⟩ v7).setCell ⟨b, 8, none⟩ v8
theorem set9_below {w w1 : World} {b : Nat} (hb : w.heap.size ≤ b) (ho : Below w.heap.size w w1) (v0 v1 v2 v3 v4 v5 v6 v7 v8 : Value) : Below w.heap.size w (set9 w1 b v0 v1 v2 v3 v4 v5 v6 v7 v8) :=
  ((set7_below hb ho _ _ _ _ _ _ _).setCell hb v7).setCell hb v8
theorem fv_bad (e : Nat) : FV (bad e) (.agg #[.int .i64 0, .string ⟨#[]⟩, .int .i64 0, .bool false, .int .i64 0, .int .i64 0, .int .i64 0, .int .i64 0, .int .i64 (e : Nat)]) := ⟨0, 0, 0, _, rfl, fun _ => ⟨rfl, rfl, rfl, rfl⟩⟩
theorem fv_ok (k n u : Nat) (t : List UInt8) : FV ⟨k, t, n, u, 0⟩ (.agg #[.int .i64 (k : Nat), .string ⟨t.toArray⟩, .int .i64 (n : Nat), .bool false, .int .i64 0, .int .i64 0, .int .i64 0, .int .i64 (u : Nat), .int .i64 0]) := ⟨_, _, _, _, rfl, fun _ => ⟨rfl, rfl, rfl, rfl⟩⟩
theorem all_step {s : ByteArray} {k : Nat} {p : UInt8 → Bool} (h : ∀ j, j < k → p (bt s j) = true) (hk : p (bt s k) = true) : ∀ j, j < k + 1 → p (bt s j) = true := fun j hj => by
  rcases Nat.lt_or_ge j k with g | g
  · exact h j g
  · obtain rfl : j = k := by omega
    exact hk
theorem tw_take2 (p : UInt8 → Bool) (s : ByteArray) (k : Nat) (h : (s.data.toList.takeWhile p).length = k) : s.data.toList.take k = s.data.toList.takeWhile p := by rw [← h]; exact tw_take p _
theorem own_below {w0 w w' : World} {v : Value} {acc : List UInt8} (h : Own w0 v acc w) (hb : Below w.heap.size w w') : Own w0 v acc w' :=
  ⟨⟨h.own.1, by
    rcases h.own.2 with h4 | ⟨g, cap, cur, hv, hb', hg, r⟩
    · exact .inl h4
    · exact .inr ⟨g, cap, cur, hv, hb', (hb.block g (heap_lt hg)).trans hg, r⟩⟩, h.bel.trans (hb.mono h.bel.size)⟩
/-- What has been read of a name, byte by byte. -/
structure NmAt (l : List UInt8) (k p : Nat) (lg : Bool) : Prop where
  nm : nmL l = l.take k ++ nmL (l.drop k)
  lo : longP 0 (nmL l) = (lg || longP p (nmL (l.drop k)))
theorem NmAt.start (l : List UInt8) : NmAt l 0 0 false := ⟨by simp, by simp⟩
theorem NmAt.nam {s : ByteArray} {k p : Nat} {lg : Bool} (h : NmAt s.data.toList k p lg) (hk : k < s.size) (hn : isNam (bt s k) = true) : NmAt s.data.toList (k + 1) (p + 1) (lg || decide (32 < p + 1)) := by
  have e : nmL (s.data.toList.drop k) = bt s k :: nmL (s.data.toList.drop (k + 1)) := by rw [drop_bt s k hk, nmL, if_pos hn]
  refine ⟨?_, ?_⟩
  · rw [h.nm, e, take_bt s k hk]; simp
  · rw [h.lo, e, longP, if_neg (by rw [nam_not36 _ hn]; decide), Bool.or_assoc, decide_eq_decide.2 (show 32 ≤ p ↔ 32 < p + 1 by omega)]
theorem NmAt.mark {s : ByteArray} {k p : Nat} {lg : Bool} (h : NmAt s.data.toList k p lg) (hk : k < s.size) (hn : isNam (bt s k) = false) (hm : more (s.data.toList.drop k) = true) : NmAt s.data.toList (k + 1) 0 lg ∧ bt s k = 36 := by
  have hb : bt s k = 36 := by
    have := (more_pref hm).1
    rw [drop_bt s k hk, hp_cons, hp_nil, Bool.and_true] at this
    have h2 : 36 = bt s k := by simpa using this
    exact h2.symm
  have e : nmL (s.data.toList.drop k) = 36 :: nmL (s.data.toList.drop (k + 1)) := by
    rw [drop_bt s k hk] at hm ⊢
    rw [nmL, hn, if_neg (by decide), if_pos hm, hb]
  refine ⟨⟨?_, ?_⟩, hb⟩
  · rw [h.nm, e, take_bt s k hk, hb]; simp
  · rw [h.lo, e, longP, if_pos (by decide)]
theorem NmAt.stop {s : ByteArray} {k p : Nat} {lg : Bool} (h : NmAt s.data.toList k p lg) (hn : ∀ c q, s.data.toList.drop k = c :: q → isNam c = false) (hm : more (s.data.toList.drop k) = false) (hk : k ≤ s.size) : nmL s.data.toList = s.data.toList.take k ∧ longP 0 (nmL s.data.toList) = lg ∧ (nmL s.data.toList).length = k := by
  have e := nm_stop _ hn
  rw [hm, if_neg (by decide)] at e
  have e1 := h.nm
  have e2 := h.lo
  rw [e, List.append_nil] at e1
  rw [e, show longP p [] = false from rfl, Bool.or_false] at e2
  refine ⟨e1, e2, ?_⟩
  rw [e1, List.length_take, len_size]; omega
theorem let_split {c : UInt8} (h : isLet c = false) : ¬ 97 ≤ c.toNat ∨ ¬ c.toNat ≤ 122 := by
  unfold isLet at h
  by_cases h1 : 97 ≤ c.toNat
  · right; intro h2; rw [decide_eq_true h1, decide_eq_true h2] at h; cases h
  · exact .inl h1
theorem let_both {c : UInt8} (h : isLet c = true) : 97 ≤ c.toNat ∧ c.toNat ≤ 122 := by
  unfold isLet at h
  simpa using h
set_option maxRecDepth 100000 in
set_option maxHeartbeats 4000000 in
theorem refName (s : ByteArray) (w : World) (hs : s.size ≤ 100000) : Calls Tryz.prog 42 #[.int .i64 1, .string s] w (FPost (nameL (nmL s.data.toList)) w) := by
  generalize hf : nameL (nmL s.data.toList) = f
  have HF := Lib.hid hf
  clear hf
  go_enter Tryz.func42, Tryz.ntmps42
  go_wp2_with fail
  have Z := Lib.hid (FndZ.new w)
  have B := Lib.hid (show Below w.heap.size w (w.alloc (.cells #[.int .i64 0, .string ⟨#[]⟩, .int .i64 0, .bool false, .int .i64 0, .int .i64 0, .int .i64 0, .int .i64 0, .int .i64 0] 55)) from (Below.refl _ _).alloc (Nat.le_refl _) _)
  generalize w.alloc (.cells #[.int .i64 0, .string ⟨#[]⟩, .int .i64 0, .bool false, .int .i64 0, .int .i64 0, .int .i64 0, .int .i64 0, .int .i64 0] 55) = w0 at Z B ⊢
  have O0 := Lib.hid (Own.nil w0)
  go_loopw [5, 6, 7, 8] (fun x n pv lv wr => ∃ (k p : Nat) (lg : Bool) (acc : List UInt8), k ≤ s.size ∧ p ≤ k ∧ n = .int .i64 k ∧ pv = .int .i64 p ∧ lv = .bool lg ∧ Own w0 x acc wr ∧ acc = s.data.toList.take k ∧ NmAt s.data.toList k p lg) (fun _ n _ _ _ => s.size - (intOf n).toNat)
  case atStart => exact ⟨0, 0, false, [], Nat.zero_le _, Nat.le_refl _, rfl, rfl, rfl, O0.out, by simp, NmAt.start _⟩
  case round =>
    obtain ⟨k, p, lg, acc, hk, hpk, rfl, rfl, rfl, ho, hacc, hst⟩ := hrel
    have O := Lib.hid ho
    have AC := Lib.hid hacc
    have NA := Lib.hid hst
    have hacl : acc.length ≤ 100000 := by rw [hacc, List.length_take, len_size]; omega
    have Z1 := Lib.hid (Z.out.below O.out.bel)
    have B1 := Lib.hid (B.out.trans (O.out.bel.mono B.out.size))
    clear ho hacc hst
    by_cases hlt : k < s.size
    · have hbe := bt_eq s k hlt
      have hlb := UInt8.toNat_lt (bt s k)
      have hLN := let_nam (bt s k)
      have MS := Lib.hid (take_bt s k hlt)
      cases hn : isNam (bt s k) with
      | true =>
        have h36 : (((bt s k).toNat : Int) == 36) = false := by
          have := nam_not36 _ hn
          have h2 : bt s k ≠ 36 := by simpa using this
          have h3 : (bt s k).toNat ≠ 36 := fun e => h2 (UInt8.toNat_inj.1 e)
          simp; omega
        rw [hn] at hLN
        have LN := Lib.hid hLN
        have NN := Lib.hid (NA.out.nam hlt hn)
        clear hn hLN
        cases lg with
        | true =>
          go_wp2_with fail
          refine (refLetter (bt s k).toNat _ (by omega)).mono ?_
          rw [LN.out]
          rintro e w2 ⟨rfl, rfl⟩
          have tok1 : True := trivial
          go_wp2_with (have _t := tok1; at_builtin; refine wp_app rfl (.tmp 67) (.tmp 69) rfl #[.int .u8 ((bt s k).toNat : Int)] [bt s k] 1 rfl rfl O.out rfl rfl (by omega) (by decide) ?_; intro v7 w7 o7; have O7 := Lib.hid o7; clear o7 tok1)
          go_roundw
          case rel => exact ⟨k + 1, p + 1, true, _, by omega, by omega, by go_num, by go_num, rfl, O7.out, by rw [AC.out, MS.out], NN.out⟩
          case measure => simp [intOf]; omega
        | false =>
          by_cases h32 : 32 ≤ p
          · have d32 : decide ((32 : Int) < (p : Int) + 1) = true := by simp; omega
            have NN2 := Lib.hid (show NmAt s.data.toList (k + 1) (p + 1) true by have := NN.out; rw [decide_eq_true (show 32 < p + 1 by omega), Bool.or_true] at this; exact this)
            clear h32 NN
            go_wp2_with fail
            refine (refLetter (bt s k).toNat _ (by omega)).mono ?_
            rw [LN.out]
            rintro e w2 ⟨rfl, rfl⟩
            have tok1 : True := trivial
            go_wp2_with (have _t := tok1; at_builtin; refine wp_app rfl (.tmp 67) (.tmp 69) rfl #[.int .u8 ((bt s k).toNat : Int)] [bt s k] 1 rfl rfl O.out rfl rfl (by omega) (by decide) ?_; intro v7 w7 o7; have O7 := Lib.hid o7; clear o7 tok1)
            go_roundw
            case rel => exact ⟨k + 1, p + 1, true, _, by omega, by omega, by go_num, by go_num, rfl, O7.out, by rw [AC.out, MS.out], NN2.out⟩
            case measure => simp [intOf]; omega
          · have d32 : decide ((32 : Int) < (p : Int) + 1) = false := by simp; omega
            have NN2 := Lib.hid (show NmAt s.data.toList (k + 1) (p + 1) false by have := NN.out; rw [decide_eq_false (show ¬ 32 < p + 1 by omega), Bool.or_false] at this; exact this)
            clear h32 NN
            go_wp2_with fail
            refine (refLetter (bt s k).toNat _ (by omega)).mono ?_
            rw [LN.out]
            rintro e w2 ⟨rfl, rfl⟩
            have tok1 : True := trivial
            go_wp2_with (have _t := tok1; at_builtin; refine wp_app rfl (.tmp 67) (.tmp 69) rfl #[.int .u8 ((bt s k).toNat : Int)] [bt s k] 1 rfl rfl O.out rfl rfl (by omega) (by decide) ?_; intro v7 w7 o7; have O7 := Lib.hid o7; clear o7 tok1)
            go_roundw
            case rel => exact ⟨k + 1, p + 1, false, _, by omega, by omega, by go_num, by go_num, rfl, O7.out, by rw [AC.out, MS.out], NN2.out⟩
            case measure => simp [intOf]; omega
      | false =>
        cases hm : more (s.data.toList.drop k) with
        | true =>
          obtain ⟨_, hk1⟩ := more_pref hm
          obtain ⟨nn, hb36⟩ := NA.out.mark hlt hn hm
          have NN := Lib.hid nn
          have hm2 := hm
          rw [more_at, Bool.and_eq_true] at hm2
          obtain ⟨l1, l2⟩ := let_both hm2.2
          have hbe1 := bt_eq s (k + 1) hk1
          have h36 : (((bt s k).toNat : Int) == 36) = true := by rw [hb36]; rfl
          have i1 : decide ((k : Int) + 1 < (s.size : Int)) = true := by simp; omega
          have i2 : decide ((97 : Int) ≤ ((bt s (k + 1)).toNat : Int)) = true := by simp; omega
          have i3 : decide (((bt s (k + 1)).toNat : Int) ≤ 122) = true := by simp; omega
          have i4 : (k : Int) + 1 < (s.size : Int) := by omega
          have hlb1 := UInt8.toNat_lt (bt s (k + 1))
          have HB36 := Lib.hid hb36
          clear nn hm hm2 hn hLN hb36 l1 l2
          have tok1 : True := trivial
          go_wp2_with (have _t := tok1; at_builtin; refine wp_app rfl (.tmp 58) (.tmp 60) rfl #[.int .u8 ((bt s k).toNat : Int)] [bt s k] 1 rfl rfl O.out rfl rfl (by omega) (by decide) ?_; intro v7 w7 o7; have O7 := Lib.hid o7; clear o7 tok1)
          go_roundw
          case rel => exact ⟨k + 1, 0, lg, _, by omega, by omega, by go_num, rfl, rfl, O7.out, by rw [AC.out, MS.out], NN.out⟩
          case measure => simp [intOf]; omega
        | false =>
          obtain ⟨hfa, hfl, hfk⟩ := NA.out.stop (fun c q e => by rw [drop_bt s k hlt] at e; rw [← (List.cons.inj e).1]; exact hn) hm hk
          have HAC := Lib.hid (show acc = nmL s.data.toList by rw [AC.out, hfa])
          have HFL := Lib.hid hfl
          have HKL := Lib.hid (show acc.length = k by rw [HAC.out]; exact hfk)
          rw [hn] at hLN
          have LN := Lib.hid hLN
          have hcv := O.out.conv
          have hI := fun w1 => refIs_any 1 ⟨acc.toArray⟩ w1
          rw [more_at, drop_bt s k hlt, hp_cons, hp_nil, Bool.and_true] at hm
          clear hfa hfl hfk hn hLN
          by_cases h36 : bt s k = 36
          · have e36 : (((bt s k).toNat : Int) == 36) = true := by rw [h36]; rfl
            have hl1 : isLet (bt s (k + 1)) = false := by rw [h36] at hm; simpa using hm
            clear hm h36
            by_cases hk1 : k + 1 < s.size
            · have i1 : decide ((k : Int) + 1 < (s.size : Int)) = true := by simp; omega
              have i4 : (k : Int) + 1 < (s.size : Int) := by omega
              have hbe1 := bt_eq s (k + 1) hk1
              have hlb1 := UInt8.toNat_lt (bt s (k + 1))
              rcases let_split hl1 with l1 | l1
              · have i2 : decide ((97 : Int) ≤ ((bt s (k + 1)).toNat : Int)) = false := by simp; omega
                clear hl1 l1
                cases lg with
                | true =>
                  obtain rfl : f = bad 3 := by
                    rw [← HF.out]
                    unfold nameL
                    rw [HFL.out, if_pos rfl]
                  obtain ⟨f0, f1, f2, f3, f4, f5, f6, f7, f8, gf⟩ := Z1.out.facts
                  clear hI hcv
                  go_wp2_with fail
                  refine (refLetter (bt s k).toNat _ (by omega)).mono ?_
                  rw [LN.out]
                  rintro e w2 ⟨rfl, rfl⟩
                  go_wp2_with fail
                  exact bodyPost_ret (v := .agg #[.int .i64 0, .string ⟨#[]⟩, .int .i64 0, .bool false, .int .i64 0, .int .i64 0, .int .i64 0, .int .i64 0, .int .i64 3]) (by simp [results, Tryz.results42, go_sem, f0, f1, f2, f3, f4, f5, f6, f7, f8]) rfl ⟨_, rfl, fv_bad 3, set9_below (Nat.le_refl _) B1.out _ _ _ _ _ _ _ _ _⟩
                | false =>
                  cases hi : isIn ⟨acc.toArray⟩ (wordsOf 1) with
                  | true =>
                    obtain rfl : f = ⟨2, acc, 0, k, 0⟩ := by
                      rw [← HF.out]
                      unfold nameL nameK
                      rw [HFL.out, if_neg (by decide), ← HAC.out, hi, if_pos rfl, HKL.out]
                    rw [hi] at hI
                    have HI := Lib.hid hI
                    clear hI hi
                    go_wp2_with fail
                    refine (refLetter (bt s k).toNat _ (by omega)).mono ?_
                    rw [LN.out]
                    rintro e w2 ⟨rfl, rfl⟩
                    go_wp2_with fail
                    refine (HI.out _).mono ?_
                    rintro e w3 ⟨rfl, b3⟩
                    have hcv3 := (own_below O.out b3).conv
                    have Z3 := Lib.hid (Z1.out.below b3)
                    have B3 := Lib.hid (B1.out.trans (b3.mono B1.out.size))
                    obtain ⟨f0, f1, f2, f3, f4, f5, f6, f7, f8, gf⟩ := Z3.out.facts
                    clear b3 hcv
                    go_wp2_with fail
                    exact bodyPost_ret (v := .agg #[.int .i64 2, .string ⟨acc.toArray⟩, .int .i64 0, .bool false, .int .i64 0, .int .i64 0, .int .i64 0, .int .i64 (k : Nat), .int .i64 0]) (by simp [results, Tryz.results42, go_sem, f0, f1, f2, f3, f4, f5, f6, f7, f8]) rfl ⟨_, rfl, fv_ok 2 0 k acc, set9_below (Nat.le_refl _) B3.out _ _ _ _ _ _ _ _ _⟩
                  | false =>
                    obtain rfl : f = ⟨1, acc, 0, k, 0⟩ := by
                      rw [← HF.out]
                      unfold nameL nameK
                      rw [HFL.out, if_neg (by decide), ← HAC.out, hi, if_neg (by decide), HKL.out]
                    rw [hi] at hI
                    have HI := Lib.hid hI
                    clear hI hi
                    go_wp2_with fail
                    refine (refLetter (bt s k).toNat _ (by omega)).mono ?_
                    rw [LN.out]
                    rintro e w2 ⟨rfl, rfl⟩
                    go_wp2_with fail
                    refine (HI.out _).mono ?_
                    rintro e w3 ⟨rfl, b3⟩
                    have hcv3 := (own_below O.out b3).conv
                    have Z3 := Lib.hid (Z1.out.below b3)
                    have B3 := Lib.hid (B1.out.trans (b3.mono B1.out.size))
                    obtain ⟨f0, f1, f2, f3, f4, f5, f6, f7, f8, gf⟩ := Z3.out.facts
                    clear b3 hcv
                    go_wp2_with fail
                    exact bodyPost_ret (v := .agg #[.int .i64 1, .string ⟨acc.toArray⟩, .int .i64 0, .bool false, .int .i64 0, .int .i64 0, .int .i64 0, .int .i64 (k : Nat), .int .i64 0]) (by simp [results, Tryz.results42, go_sem, f0, f1, f2, f3, f4, f5, f6, f7, f8]) rfl ⟨_, rfl, fv_ok 1 0 k acc, set9_below (Nat.le_refl _) B3.out _ _ _ _ _ _ _ _ _⟩
              · by_cases l0 : 97 ≤ (bt s (k + 1)).toNat
                · have i2 : decide ((97 : Int) ≤ ((bt s (k + 1)).toNat : Int)) = true := by simp; omega
                  have i3 : decide (((bt s (k + 1)).toNat : Int) ≤ 122) = false := by simp; omega
                  clear hl1 l1 l0
                  cases lg with
                  | true =>
                    obtain rfl : f = bad 3 := by
                      rw [← HF.out]
                      unfold nameL
                      rw [HFL.out, if_pos rfl]
                    obtain ⟨f0, f1, f2, f3, f4, f5, f6, f7, f8, gf⟩ := Z1.out.facts
                    clear hI hcv
                    go_wp2_with fail
                    refine (refLetter (bt s k).toNat _ (by omega)).mono ?_
                    rw [LN.out]
                    rintro e w2 ⟨rfl, rfl⟩
                    go_wp2_with fail
                    exact bodyPost_ret (v := .agg #[.int .i64 0, .string ⟨#[]⟩, .int .i64 0, .bool false, .int .i64 0, .int .i64 0, .int .i64 0, .int .i64 0, .int .i64 3]) (by simp [results, Tryz.results42, go_sem, f0, f1, f2, f3, f4, f5, f6, f7, f8]) rfl ⟨_, rfl, fv_bad 3, set9_below (Nat.le_refl _) B1.out _ _ _ _ _ _ _ _ _⟩
                  | false =>
                    cases hi : isIn ⟨acc.toArray⟩ (wordsOf 1) with
                    | true =>
                      obtain rfl : f = ⟨2, acc, 0, k, 0⟩ := by
                        rw [← HF.out]
                        unfold nameL nameK
                        rw [HFL.out, if_neg (by decide), ← HAC.out, hi, if_pos rfl, HKL.out]
                      rw [hi] at hI
                      have HI := Lib.hid hI
                      clear hI hi
                      go_wp2_with fail
                      refine (refLetter (bt s k).toNat _ (by omega)).mono ?_
                      rw [LN.out]
                      rintro e w2 ⟨rfl, rfl⟩
                      go_wp2_with fail
                      refine (HI.out _).mono ?_
                      rintro e w3 ⟨rfl, b3⟩
                      have hcv3 := (own_below O.out b3).conv
                      have Z3 := Lib.hid (Z1.out.below b3)
                      have B3 := Lib.hid (B1.out.trans (b3.mono B1.out.size))
                      obtain ⟨f0, f1, f2, f3, f4, f5, f6, f7, f8, gf⟩ := Z3.out.facts
                      clear b3 hcv
                      go_wp2_with fail
                      exact bodyPost_ret (v := .agg #[.int .i64 2, .string ⟨acc.toArray⟩, .int .i64 0, .bool false, .int .i64 0, .int .i64 0, .int .i64 0, .int .i64 (k : Nat), .int .i64 0]) (by simp [results, Tryz.results42, go_sem, f0, f1, f2, f3, f4, f5, f6, f7, f8]) rfl ⟨_, rfl, fv_ok 2 0 k acc, set9_below (Nat.le_refl _) B3.out _ _ _ _ _ _ _ _ _⟩
                    | false =>
                      obtain rfl : f = ⟨1, acc, 0, k, 0⟩ := by
                        rw [← HF.out]
                        unfold nameL nameK
                        rw [HFL.out, if_neg (by decide), ← HAC.out, hi, if_neg (by decide), HKL.out]
                      rw [hi] at hI
                      have HI := Lib.hid hI
                      clear hI hi
                      go_wp2_with fail
                      refine (refLetter (bt s k).toNat _ (by omega)).mono ?_
                      rw [LN.out]
                      rintro e w2 ⟨rfl, rfl⟩
                      go_wp2_with fail
                      refine (HI.out _).mono ?_
                      rintro e w3 ⟨rfl, b3⟩
                      have hcv3 := (own_below O.out b3).conv
                      have Z3 := Lib.hid (Z1.out.below b3)
                      have B3 := Lib.hid (B1.out.trans (b3.mono B1.out.size))
                      obtain ⟨f0, f1, f2, f3, f4, f5, f6, f7, f8, gf⟩ := Z3.out.facts
                      clear b3 hcv
                      go_wp2_with fail
                      exact bodyPost_ret (v := .agg #[.int .i64 1, .string ⟨acc.toArray⟩, .int .i64 0, .bool false, .int .i64 0, .int .i64 0, .int .i64 0, .int .i64 (k : Nat), .int .i64 0]) (by simp [results, Tryz.results42, go_sem, f0, f1, f2, f3, f4, f5, f6, f7, f8]) rfl ⟨_, rfl, fv_ok 1 0 k acc, set9_below (Nat.le_refl _) B3.out _ _ _ _ _ _ _ _ _⟩
                · exact absurd (show 97 ≤ (bt s (k + 1)).toNat by omega) l0
            · have i1 : decide ((k : Int) + 1 < (s.size : Int)) = false := by simp; omega
              clear hl1 hk1
              cases lg with
              | true =>
                obtain rfl : f = bad 3 := by
                  rw [← HF.out]
                  unfold nameL
                  rw [HFL.out, if_pos rfl]
                obtain ⟨f0, f1, f2, f3, f4, f5, f6, f7, f8, gf⟩ := Z1.out.facts
                clear hI hcv
                go_wp2_with fail
                refine (refLetter (bt s k).toNat _ (by omega)).mono ?_
                rw [LN.out]
                rintro e w2 ⟨rfl, rfl⟩
                go_wp2_with fail
                exact bodyPost_ret (v := .agg #[.int .i64 0, .string ⟨#[]⟩, .int .i64 0, .bool false, .int .i64 0, .int .i64 0, .int .i64 0, .int .i64 0, .int .i64 3]) (by simp [results, Tryz.results42, go_sem, f0, f1, f2, f3, f4, f5, f6, f7, f8]) rfl ⟨_, rfl, fv_bad 3, set9_below (Nat.le_refl _) B1.out _ _ _ _ _ _ _ _ _⟩
              | false =>
                cases hi : isIn ⟨acc.toArray⟩ (wordsOf 1) with
                | true =>
                  obtain rfl : f = ⟨2, acc, 0, k, 0⟩ := by
                    rw [← HF.out]
                    unfold nameL nameK
                    rw [HFL.out, if_neg (by decide), ← HAC.out, hi, if_pos rfl, HKL.out]
                  rw [hi] at hI
                  have HI := Lib.hid hI
                  clear hI hi
                  go_wp2_with fail
                  refine (refLetter (bt s k).toNat _ (by omega)).mono ?_
                  rw [LN.out]
                  rintro e w2 ⟨rfl, rfl⟩
                  go_wp2_with fail
                  refine (HI.out _).mono ?_
                  rintro e w3 ⟨rfl, b3⟩
                  have hcv3 := (own_below O.out b3).conv
                  have Z3 := Lib.hid (Z1.out.below b3)
                  have B3 := Lib.hid (B1.out.trans (b3.mono B1.out.size))
                  obtain ⟨f0, f1, f2, f3, f4, f5, f6, f7, f8, gf⟩ := Z3.out.facts
                  clear b3 hcv
                  go_wp2_with fail
                  exact bodyPost_ret (v := .agg #[.int .i64 2, .string ⟨acc.toArray⟩, .int .i64 0, .bool false, .int .i64 0, .int .i64 0, .int .i64 0, .int .i64 (k : Nat), .int .i64 0]) (by simp [results, Tryz.results42, go_sem, f0, f1, f2, f3, f4, f5, f6, f7, f8]) rfl ⟨_, rfl, fv_ok 2 0 k acc, set9_below (Nat.le_refl _) B3.out _ _ _ _ _ _ _ _ _⟩
                | false =>
                  obtain rfl : f = ⟨1, acc, 0, k, 0⟩ := by
                    rw [← HF.out]
                    unfold nameL nameK
                    rw [HFL.out, if_neg (by decide), ← HAC.out, hi, if_neg (by decide), HKL.out]
                  rw [hi] at hI
                  have HI := Lib.hid hI
                  clear hI hi
                  go_wp2_with fail
                  refine (refLetter (bt s k).toNat _ (by omega)).mono ?_
                  rw [LN.out]
                  rintro e w2 ⟨rfl, rfl⟩
                  go_wp2_with fail
                  refine (HI.out _).mono ?_
                  rintro e w3 ⟨rfl, b3⟩
                  have hcv3 := (own_below O.out b3).conv
                  have Z3 := Lib.hid (Z1.out.below b3)
                  have B3 := Lib.hid (B1.out.trans (b3.mono B1.out.size))
                  obtain ⟨f0, f1, f2, f3, f4, f5, f6, f7, f8, gf⟩ := Z3.out.facts
                  clear b3 hcv
                  go_wp2_with fail
                  exact bodyPost_ret (v := .agg #[.int .i64 1, .string ⟨acc.toArray⟩, .int .i64 0, .bool false, .int .i64 0, .int .i64 0, .int .i64 0, .int .i64 (k : Nat), .int .i64 0]) (by simp [results, Tryz.results42, go_sem, f0, f1, f2, f3, f4, f5, f6, f7, f8]) rfl ⟨_, rfl, fv_ok 1 0 k acc, set9_below (Nat.le_refl _) B3.out _ _ _ _ _ _ _ _ _⟩
          · have e36 : (((bt s k).toNat : Int) == 36) = false := by
              have h3 : (bt s k).toNat ≠ 36 := fun e => h36 (UInt8.toNat_inj.1 e)
              simp; omega
            clear hm h36
            cases lg with
            | true =>
              obtain rfl : f = bad 3 := by
                rw [← HF.out]
                unfold nameL
                rw [HFL.out, if_pos rfl]
              obtain ⟨f0, f1, f2, f3, f4, f5, f6, f7, f8, gf⟩ := Z1.out.facts
              clear hI hcv
              go_wp2_with fail
              refine (refLetter (bt s k).toNat _ (by omega)).mono ?_
              rw [LN.out]
              rintro e w2 ⟨rfl, rfl⟩
              go_wp2_with fail
              exact bodyPost_ret (v := .agg #[.int .i64 0, .string ⟨#[]⟩, .int .i64 0, .bool false, .int .i64 0, .int .i64 0, .int .i64 0, .int .i64 0, .int .i64 3]) (by simp [results, Tryz.results42, go_sem, f0, f1, f2, f3, f4, f5, f6, f7, f8]) rfl ⟨_, rfl, fv_bad 3, set9_below (Nat.le_refl _) B1.out _ _ _ _ _ _ _ _ _⟩
            | false =>
              cases hi : isIn ⟨acc.toArray⟩ (wordsOf 1) with
              | true =>
                obtain rfl : f = ⟨2, acc, 0, k, 0⟩ := by
                  rw [← HF.out]
                  unfold nameL nameK
                  rw [HFL.out, if_neg (by decide), ← HAC.out, hi, if_pos rfl, HKL.out]
                rw [hi] at hI
                have HI := Lib.hid hI
                clear hI hi
                go_wp2_with fail
                refine (refLetter (bt s k).toNat _ (by omega)).mono ?_
                rw [LN.out]
                rintro e w2 ⟨rfl, rfl⟩
                go_wp2_with fail
                refine (HI.out _).mono ?_
                rintro e w3 ⟨rfl, b3⟩
                have hcv3 := (own_below O.out b3).conv
                have Z3 := Lib.hid (Z1.out.below b3)
                have B3 := Lib.hid (B1.out.trans (b3.mono B1.out.size))
                obtain ⟨f0, f1, f2, f3, f4, f5, f6, f7, f8, gf⟩ := Z3.out.facts
                clear b3 hcv
                go_wp2_with fail
                exact bodyPost_ret (v := .agg #[.int .i64 2, .string ⟨acc.toArray⟩, .int .i64 0, .bool false, .int .i64 0, .int .i64 0, .int .i64 0, .int .i64 (k : Nat), .int .i64 0]) (by simp [results, Tryz.results42, go_sem, f0, f1, f2, f3, f4, f5, f6, f7, f8]) rfl ⟨_, rfl, fv_ok 2 0 k acc, set9_below (Nat.le_refl _) B3.out _ _ _ _ _ _ _ _ _⟩
              | false =>
                obtain rfl : f = ⟨1, acc, 0, k, 0⟩ := by
                  rw [← HF.out]
                  unfold nameL nameK
                  rw [HFL.out, if_neg (by decide), ← HAC.out, hi, if_neg (by decide), HKL.out]
                rw [hi] at hI
                have HI := Lib.hid hI
                clear hI hi
                go_wp2_with fail
                refine (refLetter (bt s k).toNat _ (by omega)).mono ?_
                rw [LN.out]
                rintro e w2 ⟨rfl, rfl⟩
                go_wp2_with fail
                refine (HI.out _).mono ?_
                rintro e w3 ⟨rfl, b3⟩
                have hcv3 := (own_below O.out b3).conv
                have Z3 := Lib.hid (Z1.out.below b3)
                have B3 := Lib.hid (B1.out.trans (b3.mono B1.out.size))
                obtain ⟨f0, f1, f2, f3, f4, f5, f6, f7, f8, gf⟩ := Z3.out.facts
                clear b3 hcv
                go_wp2_with fail
                exact bodyPost_ret (v := .agg #[.int .i64 1, .string ⟨acc.toArray⟩, .int .i64 0, .bool false, .int .i64 0, .int .i64 0, .int .i64 0, .int .i64 (k : Nat), .int .i64 0]) (by simp [results, Tryz.results42, go_sem, f0, f1, f2, f3, f4, f5, f6, f7, f8]) rfl ⟨_, rfl, fv_ok 1 0 k acc, set9_below (Nat.le_refl _) B3.out _ _ _ _ _ _ _ _ _⟩
    · have hm : more (s.data.toList.drop k) = false := by rw [drop_end s k hlt]; rfl
      obtain ⟨hfa, hfl, hfk⟩ := NA.out.stop (fun c q e => by rw [drop_end s k hlt] at e; cases e) hm hk
      have HAC := Lib.hid (show acc = nmL s.data.toList by rw [AC.out, hfa])
      have HFL := Lib.hid hfl
      have HKL := Lib.hid (show acc.length = k by rw [HAC.out]; exact hfk)
      have hcv := O.out.conv
      have hI := fun w1 => refIs_any 1 ⟨acc.toArray⟩ w1
      clear hfa hfl hfk hm
      cases lg with
      | true =>
        obtain rfl : f = bad 3 := by
          rw [← HF.out]
          unfold nameL
          rw [HFL.out, if_pos rfl]
        obtain ⟨f0, f1, f2, f3, f4, f5, f6, f7, f8, gf⟩ := Z1.out.facts
        clear hI hcv
        go_wp2_with fail
        exact bodyPost_ret (v := .agg #[.int .i64 0, .string ⟨#[]⟩, .int .i64 0, .bool false, .int .i64 0, .int .i64 0, .int .i64 0, .int .i64 0, .int .i64 3]) (by simp [results, Tryz.results42, go_sem, f0, f1, f2, f3, f4, f5, f6, f7, f8]) rfl ⟨_, rfl, fv_bad 3, set9_below (Nat.le_refl _) B1.out _ _ _ _ _ _ _ _ _⟩
      | false =>
        cases hi : isIn ⟨acc.toArray⟩ (wordsOf 1) with
        | true =>
          obtain rfl : f = ⟨2, acc, 0, k, 0⟩ := by
            rw [← HF.out]
            unfold nameL nameK
            rw [HFL.out, if_neg (by decide), ← HAC.out, hi, if_pos rfl, HKL.out]
          rw [hi] at hI
          have HI := Lib.hid hI
          clear hI hi
          go_wp2_with fail
          refine (HI.out _).mono ?_
          rintro e w3 ⟨rfl, b3⟩
          have hcv3 := (own_below O.out b3).conv
          have Z3 := Lib.hid (Z1.out.below b3)
          have B3 := Lib.hid (B1.out.trans (b3.mono B1.out.size))
          obtain ⟨f0, f1, f2, f3, f4, f5, f6, f7, f8, gf⟩ := Z3.out.facts
          clear b3 hcv
          go_wp2_with fail
          exact bodyPost_ret (v := .agg #[.int .i64 2, .string ⟨acc.toArray⟩, .int .i64 0, .bool false, .int .i64 0, .int .i64 0, .int .i64 0, .int .i64 (k : Nat), .int .i64 0]) (by simp [results, Tryz.results42, go_sem, f0, f1, f2, f3, f4, f5, f6, f7, f8]) rfl ⟨_, rfl, fv_ok 2 0 k acc, set9_below (Nat.le_refl _) B3.out _ _ _ _ _ _ _ _ _⟩
        | false =>
          obtain rfl : f = ⟨1, acc, 0, k, 0⟩ := by
            rw [← HF.out]
            unfold nameL nameK
            rw [HFL.out, if_neg (by decide), ← HAC.out, hi, if_neg (by decide), HKL.out]
          rw [hi] at hI
          have HI := Lib.hid hI
          clear hI hi
          go_wp2_with fail
          refine (HI.out _).mono ?_
          rintro e w3 ⟨rfl, b3⟩
          have hcv3 := (own_below O.out b3).conv
          have Z3 := Lib.hid (Z1.out.below b3)
          have B3 := Lib.hid (B1.out.trans (b3.mono B1.out.size))
          obtain ⟨f0, f1, f2, f3, f4, f5, f6, f7, f8, gf⟩ := Z3.out.facts
          clear b3 hcv
          go_wp2_with fail
          exact bodyPost_ret (v := .agg #[.int .i64 1, .string ⟨acc.toArray⟩, .int .i64 0, .bool false, .int .i64 0, .int .i64 0, .int .i64 0, .int .i64 (k : Nat), .int .i64 0]) (by simp [results, Tryz.results42, go_sem, f0, f1, f2, f3, f4, f5, f6, f7, f8]) rfl ⟨_, rfl, fv_ok 1 0 k acc, set9_below (Nat.le_refl _) B3.out _ _ _ _ _ _ _ _ _⟩
end Go.Proofs.YtjdmaindoohmkaaGreatDoor
