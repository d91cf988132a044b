/-
  The reference's name, walked.
-/
import Derived.Test.YtjdmaindoohmkaaDoorPRfa
namespace Go.Proofs.YtjdmaindoohmkaaDoor.P
open Go.RowKit Go.Sort

/-- What was found, zero, lies in the block b. -/
structure FndZ (w : World) (b : Nat) : Prop where
  blk : w.heap[b]? = some (.cells #[.int .i64 0, .string ⟨#[]⟩, .int .i64 0, .bool false, .int .i64 0, .int .i64 0, .int .i64 0, .int .i64 0, .int .i64 0] 54)
theorem FndZ.lt {w : World} {b : Nat} (h : FndZ w b) : b < w.heap.size := heap_lt h.blk
theorem FndZ.facts {w : World} {b : Nat} (h : FndZ w b) : w.cell? ⟨b, 0, none⟩ = some (.int .i64 0) ∧ w.cell? ⟨b, 1, none⟩ = some (.string ⟨#[]⟩) ∧ w.cell? ⟨b, 2, none⟩ = some (.int .i64 0) ∧ w.cell? ⟨b, 3, none⟩ = some (.bool false) ∧ w.cell? ⟨b, 4, none⟩ = some (.int .i64 0) ∧ w.cell? ⟨b, 5, none⟩ = some (.int .i64 0) ∧ w.cell? ⟨b, 6, none⟩ = some (.int .i64 0) ∧ w.cell? ⟨b, 7, none⟩ = some (.int .i64 0) ∧ w.cell? ⟨b, 8, none⟩ = some (.int .i64 0) ∧ ∀ o, w.frozen? ⟨b, o, none⟩ = false := by
  have := h.blk
  refine ⟨?_, ?_, ?_, ?_, ?_, ?_, ?_, ?_, ?_, fun o => ?_⟩ <;> simp [World.cell?, World.frozen?, this]
theorem FndZ.new (w : World) : FndZ (w.alloc (.cells #[.int .i64 0, .string ⟨#[]⟩, .int .i64 0, .bool false, .int .i64 0, .int .i64 0, .int .i64 0, .int .i64 0, .int .i64 0] 54)) w.heap.size := ⟨heap_new _ _⟩
theorem FndZ.below {w w' : World} {b : Nat} (h : FndZ w b) (ho : Below w.heap.size w w') : FndZ w' b := ⟨(ho.block b h.lt).trans h.blk⟩
def set9 (w : World) (b : Nat) (v0 v1 v2 v3 v4 v5 v6 v7 v8 : Value) : World := (set7 w b v0 v1 v2 v3 v4 v5 v6 |>.setCell ⟨b, 7, none⟩ v7).setCell ⟨b, 8, none⟩ v8
theorem set9_below {w w1 : World} {b : Nat} (hb : w.heap.size ≤ b) (ho : Below w.heap.size w w1) (v0 v1 v2 v3 v4 v5 v6 v7 v8 : Value) : Below w.heap.size w (set9 w1 b v0 v1 v2 v3 v4 v5 v6 v7 v8) :=
  ((set7_below hb ho _ _ _ _ _ _ _).setCell hb v7).setCell hb v8
theorem fv_bad (e : Nat) : FV (bad e) (.agg #[.int .i64 0, .string ⟨#[]⟩, .int .i64 0, .bool false, .int .i64 0, .int .i64 0, .int .i64 0, .int .i64 0, .int .i64 (e : Nat)]) := ⟨0, 0, 0, _, rfl, fun _ => ⟨rfl, rfl, rfl, rfl⟩⟩
theorem fv_ok (k n u : Nat) (t : List UInt8) : FV ⟨k, t, n, u, 0⟩ (.agg #[.int .i64 (k : Nat), .string ⟨t.toArray⟩, .int .i64 (n : Nat), .bool false, .int .i64 0, .int .i64 0, .int .i64 0, .int .i64 (u : Nat), .int .i64 0]) := ⟨_, _, _, _, rfl, fun _ => ⟨rfl, rfl, rfl, rfl⟩⟩
theorem all_step {s : ByteArray} {k : Nat} {p : UInt8 → Bool} (h : ∀ j, j < k → p (bt s j) = true) (hk : p (bt s k) = true) : ∀ j, j < k + 1 → p (bt s j) = true := fun j hj => by
  rcases Nat.lt_or_ge j k with g | g
  · exact h j g
  · obtain rfl : j = k := by omega
    exact hk
theorem tw_take2 (p : UInt8 → Bool) (s : ByteArray) (k : Nat) (h : (s.data.toList.takeWhile p).length = k) : s.data.toList.take k = s.data.toList.takeWhile p := by rw [← h]; exact tw_take p _
theorem own_below {w0 w w' : World} {v : Value} {acc : List UInt8} (h : Own w0 v acc w) (hb : Below w.heap.size w w') : Own w0 v acc w' :=
  ⟨⟨h.own.1, by
    rcases h.own.2 with h4 | ⟨g, cap, cur, hv, hb', hg, r⟩
    · exact .inl h4
    · exact .inr ⟨g, cap, cur, hv, hb', (hb.block g (heap_lt hg)).trans hg, r⟩⟩, h.bel.trans (hb.mono h.bel.size)⟩
set_option maxRecDepth 100000 in
set_option maxHeartbeats 4000000 in
theorem refName (s : ByteArray) (w : World) (hs : s.size ≤ 100000) : Calls Tryd.prog 43 #[.int .i64 0, .string s] w (FPost (nameL (s.data.toList.takeWhile isNam)) w) := by
  generalize hf : nameL (s.data.toList.takeWhile isNam) = f
  have HF := Lib.hid hf
  clear hf
  go_enter Tryd.func43, Tryd.ntmps43
  go_wp2_with fail
  have Z := Lib.hid (FndZ.new w)
  have B := Lib.hid (show Below w.heap.size w (w.alloc (.cells #[.int .i64 0, .string ⟨#[]⟩, .int .i64 0, .bool false, .int .i64 0, .int .i64 0, .int .i64 0, .int .i64 0, .int .i64 0] 54)) from (Below.refl _ _).alloc (Nat.le_refl _) _)
  generalize w.alloc (.cells #[.int .i64 0, .string ⟨#[]⟩, .int .i64 0, .bool false, .int .i64 0, .int .i64 0, .int .i64 0, .int .i64 0, .int .i64 0] 54) = w0 at Z B ⊢
  have O0 := Lib.hid (Own.nil w0)
  go_loopw [5, 6, 7, 8] (fun x n p lg wr => ∃ (k : Nat) (acc : List UInt8), k ≤ s.size ∧ n = .int .i64 k ∧ p = .int .i64 k ∧ lg = .bool (decide (32 < k)) ∧ Own w0 x acc wr ∧ acc = (s.data.toList.take k).map Lib.lowerB ∧ ∀ j, j < k → isNam (bt s j) = true) (fun _ n _ _ _ => s.size - (intOf n).toNat)
  case atStart => exact ⟨0, [], Nat.zero_le _, rfl, rfl, rfl, O0.out, by simp, fun j h => by omega⟩
  case round =>
    obtain ⟨k, acc, hk, rfl, rfl, rfl, ho, hacc, hall⟩ := hrel
    have O := Lib.hid ho
    have AC := Lib.hid hacc
    have hacl : acc.length ≤ 100000 := by rw [hacc, List.length_map, List.length_take, len_size]; omega
    have TF := Lib.hid (tw_from isNam s (s.size - k) k (by omega) hall)
    clear ho hacc
    by_cases hgo : k < s.size ∧ isNam (bt s k) = true
    · obtain ⟨hlt, hnam⟩ := hgo
      have hbe := bt_eq s k hlt
      have AL := Lib.hid (all_step hall hnam)
      have MS := Lib.hid (show (s.data.toList.take (k + 1)).map Lib.lowerB = (s.data.toList.take k).map Lib.lowerB ++ [Lib.lowerB (bt s k)] by rw [take_bt s k hlt, List.map_append]; rfl)
      have hlb := UInt8.toNat_lt (bt s k)
      have hLN := low_nam (bt s k)
      rw [hnam] at hLN
      clear hall hnam TF
      have hlong : (decide (32 < k) = true ∧ decide (32 < k + 1) = true) ∨ (decide (32 < k) = false ∧ decide (32 < k + 1) = false ∧ decide ((32 : Int) < (k : Int) + 1) = false) ∨ (decide (32 < k) = false ∧ decide (32 < k + 1) = true ∧ decide ((32 : Int) < (k : Int) + 1) = true) := by
        by_cases h1 : 32 < k
        · exact .inl ⟨by simp; omega, by simp; omega⟩
        · by_cases h2 : 32 < k + 1
          · exact .inr (.inr ⟨by simp; omega, by simp; omega, by simp; omega⟩)
          · exact .inr (.inl ⟨by simp; omega, by simp; omega, by simp; omega⟩)
      by_cases hup : 65 ≤ (bt s k).toNat ∧ (bt s k).toNat ≤ 90
      · have hl32 := low_up (bt s k) hup.1 hup.2
        have hcv : ((bt s k).toNat : Int) - 65 + 97 = ((Lib.lowerB (bt s k)).toNat : Int) := by omega
        have d1 : decide ((65 : Int) ≤ ((bt s k).toNat : Int)) = true := by simp; omega
        have d2 : decide (((bt s k).toNat : Int) ≤ 90) = true := by simp; omega
        have hb1 := hup.1
        have hb2 := hup.2
        have hl8 : (Lib.lowerB (bt s k)).toNat ≤ 255 := by omega
        have LN := Lib.hid hLN
        clear hup hLN hl32
        rcases hlong with ⟨e1, e2⟩ | ⟨e1, e2, e3⟩ | ⟨e1, e2, e3⟩
        all_goals
          have LB := Lib.hid (congrArg Value.bool e2.symm)
          rw [e1]
          clear e1 e2
          go_wp2_with fail
          refine (refLetter (Lib.lowerB (bt s k)).toNat _ (by omega)).mono ?_
          rw [LN.out]
          rintro e w2 ⟨rfl, rfl⟩
          have tok1 : True := trivial
          go_wp2_with (have _t := tok1; at_builtin; refine wp_app rfl (.tmp 67) (.tmp 69) rfl #[.int .u8 ((Lib.lowerB (bt s k)).toNat : Int)] [Lib.lowerB (bt s k)] 1 rfl rfl O.out rfl rfl (by omega) (by decide) ?_; intro v7 w7 o7; have O7 := Lib.hid o7; clear o7 tok1)
          go_roundw
          case rel => exact ⟨k + 1, _, by omega, by go_num, by go_num, by first | exact LB.out | rfl, O7.out, by rw [AC.out, MS.out], AL.out⟩
          case measure => simp [intOf]; omega

      · have hl := low_no (bt s k) hup
        rw [hl] at hLN MS
        have LN := Lib.hid hLN
        have d12 : decide ((65 : Int) ≤ ((bt s k).toNat : Int)) = false ∨ (decide ((65 : Int) ≤ ((bt s k).toNat : Int)) = true ∧ decide (((bt s k).toNat : Int) ≤ 90) = false) := by
          by_cases h1 : 65 ≤ (bt s k).toNat
          · exact .inr ⟨by simp; omega, by simp; omega⟩
          · exact .inl (by simp; omega)
        clear hup hLN hl
        rcases d12 with d1 | ⟨d1, d2⟩ <;> rcases hlong with ⟨e1, e2⟩ | ⟨e1, e2, e3⟩ | ⟨e1, e2, e3⟩
        all_goals
          have LB := Lib.hid (congrArg Value.bool e2.symm)
          rw [e1]
          clear e1 e2
          go_wp2_with fail
          refine (refLetter (bt s k).toNat _ (by omega)).mono ?_
          rw [LN.out]
          rintro e w2 ⟨rfl, rfl⟩
          have tok1 : True := trivial
          go_wp2_with (have _t := tok1; at_builtin; refine wp_app rfl (.tmp 67) (.tmp 69) rfl #[.int .u8 ((bt s k).toNat : Int)] [bt s k] 1 rfl rfl O.out rfl rfl (by omega) (by decide) ?_; intro v7 w7 o7; have O7 := Lib.hid o7; clear o7 tok1)
          go_roundw
          case rel => exact ⟨k + 1, _, by omega, by go_num, by go_num, by first | exact LB.out | rfl, O7.out, by rw [AC.out, MS.out], AL.out⟩
          case measure => simp [intOf]; omega

    · have hfin : (s.data.toList.takeWhile isNam).length = k := by
        rw [TF.out]
        by_cases hlt : k < s.size
        · rw [drop_bt s k hlt, List.takeWhile_cons, if_neg (fun h => hgo ⟨hlt, h⟩)]; rfl
        · rw [drop_end s k hlt]; rfl
      have HFI := Lib.hid hfin
      have HAC := Lib.hid (show acc = (s.data.toList.takeWhile isNam).map Lib.lowerB by rw [AC.out, tw_take2 isNam s k hfin])
      have Z1 := Lib.hid (Z.out.below O.out.bel)
      have B1 := Lib.hid (B.out.trans (O.out.bel.mono B.out.size))
      have hcv := O.out.conv
      have hI := fun w1 => refIs_any 0 ⟨acc.toArray⟩ w1
      clear hfin TF hall
      by_cases hlt : k < s.size
      · have hbe := bt_eq s k hlt
        have hlb := UInt8.toNat_lt (bt s k)
        have hnn : isNam (bt s k) = false := by
          cases h : isNam (bt s k) with
          | true => exact absurd ⟨hlt, h⟩ hgo
          | false => rfl
        have hup : ¬ (65 ≤ (bt s k).toNat ∧ (bt s k).toNat ≤ 90) := by
          intro h
          have h2 : isUp (bt s k) = true := by unfold isUp; rw [decide_eq_true h.1, decide_eq_true h.2]; rfl
          unfold isNam isLet at hnn
          rw [h2] at hnn
          simp at hnn
        have hLN := low_nam (bt s k)
        rw [low_no (bt s k) hup, hnn] at hLN
        have LN := Lib.hid hLN
        clear hgo hnn hLN
        by_cases h65 : 65 ≤ (bt s k).toNat
        · have d1 : decide ((65 : Int) ≤ ((bt s k).toNat : Int)) = true := by simp; omega
          have d2 : decide (((bt s k).toNat : Int) ≤ 90) = false := by simp; omega
          clear hup
          by_cases hlong : 32 < k
          · obtain rfl : f = bad 3 := by rw [← HF.out]; exact nameL_long _ (by rw [HFI.out]; exact hlong)
            rw [decide_eq_true hlong]
            obtain ⟨f0, f1, f2, f3, f4, f5, f6, f7, f8, gf⟩ := Z1.out.facts
            clear hI hcv hlong
            go_wp2_with fail
            refine (refLetter (bt s k).toNat _ (by omega)).mono ?_
            rw [LN.out]
            rintro e w2 ⟨rfl, rfl⟩
            go_wp2_with fail
            exact bodyPost_ret (v := .agg #[.int .i64 0, .string ⟨#[]⟩, .int .i64 0, .bool false, .int .i64 0, .int .i64 0, .int .i64 0, .int .i64 0, .int .i64 3]) (by simp [results, Tryd.results43, go_sem, f0, f1, f2, f3, f4, f5, f6, f7, f8]) rfl ⟨_, rfl, fv_bad 3, set9_below (Nat.le_refl _) B1.out _ _ _ _ _ _ _ _ _⟩
          · rw [decide_eq_false hlong]
            cases hi : isIn ⟨acc.toArray⟩ (wordsOf 0) with
            | true =>
              obtain rfl : f = ⟨2, acc, 0, k, 0⟩ := by
                have hlen : ¬ 32 < (s.data.toList.takeWhile isNam).length := by rw [HFI.out]; exact hlong
                have hw2 := hi
                rw [HAC.out] at hw2
                rw [← HF.out, nameL_word _ hlen hw2, ← HAC.out, HFI.out]
              rw [hi] at hI
              have HI := Lib.hid hI
              clear hI hi hlong
              go_wp2_with fail
              refine (refLetter (bt s k).toNat _ (by omega)).mono ?_
              rw [LN.out]
              rintro e w2 ⟨rfl, rfl⟩
              go_wp2_with fail
              refine (HI.out _).mono ?_
              rintro e w3 ⟨rfl, b3⟩
              have hcv3 := (own_below O.out b3).conv
              have Z3 := Lib.hid (Z1.out.below b3)
              have B3 := Lib.hid (B1.out.trans (b3.mono B1.out.size))
              obtain ⟨f0, f1, f2, f3, f4, f5, f6, f7, f8, gf⟩ := Z3.out.facts
              clear b3 hcv
              go_wp2_with fail
              exact bodyPost_ret (v := .agg #[.int .i64 2, .string ⟨acc.toArray⟩, .int .i64 0, .bool false, .int .i64 0, .int .i64 0, .int .i64 0, .int .i64 (k : Nat), .int .i64 0]) (by simp [results, Tryd.results43, go_sem, f0, f1, f2, f3, f4, f5, f6, f7, f8]) rfl ⟨_, rfl, fv_ok 2 0 k acc, set9_below (Nat.le_refl _) B3.out _ _ _ _ _ _ _ _ _⟩
            | false =>
              obtain rfl : f = ⟨1, acc, 0, k, 0⟩ := by
                have hlen : ¬ 32 < (s.data.toList.takeWhile isNam).length := by rw [HFI.out]; exact hlong
                have hw2 := hi
                rw [HAC.out] at hw2
                rw [← HF.out, nameL_name _ hlen hw2, ← HAC.out, HFI.out]
              rw [hi] at hI
              have HI := Lib.hid hI
              clear hI hi hlong
              go_wp2_with fail
              refine (refLetter (bt s k).toNat _ (by omega)).mono ?_
              rw [LN.out]
              rintro e w2 ⟨rfl, rfl⟩
              go_wp2_with fail
              refine (HI.out _).mono ?_
              rintro e w3 ⟨rfl, b3⟩
              have hcv3 := (own_below O.out b3).conv
              have Z3 := Lib.hid (Z1.out.below b3)
              have B3 := Lib.hid (B1.out.trans (b3.mono B1.out.size))
              obtain ⟨f0, f1, f2, f3, f4, f5, f6, f7, f8, gf⟩ := Z3.out.facts
              clear b3 hcv
              go_wp2_with fail
              exact bodyPost_ret (v := .agg #[.int .i64 1, .string ⟨acc.toArray⟩, .int .i64 0, .bool false, .int .i64 0, .int .i64 0, .int .i64 0, .int .i64 (k : Nat), .int .i64 0]) (by simp [results, Tryd.results43, go_sem, f0, f1, f2, f3, f4, f5, f6, f7, f8]) rfl ⟨_, rfl, fv_ok 1 0 k acc, set9_below (Nat.le_refl _) B3.out _ _ _ _ _ _ _ _ _⟩
        · have d1 : decide ((65 : Int) ≤ ((bt s k).toNat : Int)) = false := by simp; omega
          clear hup
          by_cases hlong : 32 < k
          · obtain rfl : f = bad 3 := by rw [← HF.out]; exact nameL_long _ (by rw [HFI.out]; exact hlong)
            rw [decide_eq_true hlong]
            obtain ⟨f0, f1, f2, f3, f4, f5, f6, f7, f8, gf⟩ := Z1.out.facts
            clear hI hcv hlong
            go_wp2_with fail
            refine (refLetter (bt s k).toNat _ (by omega)).mono ?_
            rw [LN.out]
            rintro e w2 ⟨rfl, rfl⟩
            go_wp2_with fail
            exact bodyPost_ret (v := .agg #[.int .i64 0, .string ⟨#[]⟩, .int .i64 0, .bool false, .int .i64 0, .int .i64 0, .int .i64 0, .int .i64 0, .int .i64 3]) (by simp [results, Tryd.results43, go_sem, f0, f1, f2, f3, f4, f5, f6, f7, f8]) rfl ⟨_, rfl, fv_bad 3, set9_below (Nat.le_refl _) B1.out _ _ _ _ _ _ _ _ _⟩
          · rw [decide_eq_false hlong]
            cases hi : isIn ⟨acc.toArray⟩ (wordsOf 0) with
            | true =>
              obtain rfl : f = ⟨2, acc, 0, k, 0⟩ := by
                have hlen : ¬ 32 < (s.data.toList.takeWhile isNam).length := by rw [HFI.out]; exact hlong
                have hw2 := hi
                rw [HAC.out] at hw2
                rw [← HF.out, nameL_word _ hlen hw2, ← HAC.out, HFI.out]
              rw [hi] at hI
              have HI := Lib.hid hI
              clear hI hi hlong
              go_wp2_with fail
              refine (refLetter (bt s k).toNat _ (by omega)).mono ?_
              rw [LN.out]
              rintro e w2 ⟨rfl, rfl⟩
              go_wp2_with fail
              refine (HI.out _).mono ?_
              rintro e w3 ⟨rfl, b3⟩
              have hcv3 := (own_below O.out b3).conv
              have Z3 := Lib.hid (Z1.out.below b3)
              have B3 := Lib.hid (B1.out.trans (b3.mono B1.out.size))
              obtain ⟨f0, f1, f2, f3, f4, f5, f6, f7, f8, gf⟩ := Z3.out.facts
              clear b3 hcv
              go_wp2_with fail
              exact bodyPost_ret (v := .agg #[.int .i64 2, .string ⟨acc.toArray⟩, .int .i64 0, .bool false, .int .i64 0, .int .i64 0, .int .i64 0, .int .i64 (k : Nat), .int .i64 0]) (by simp [results, Tryd.results43, go_sem, f0, f1, f2, f3, f4, f5, f6, f7, f8]) rfl ⟨_, rfl, fv_ok 2 0 k acc, set9_below (Nat.le_refl _) B3.out _ _ _ _ _ _ _ _ _⟩
            | false =>
              obtain rfl : f = ⟨1, acc, 0, k, 0⟩ := by
                have hlen : ¬ 32 < (s.data.toList.takeWhile isNam).length := by rw [HFI.out]; exact hlong
                have hw2 := hi
                rw [HAC.out] at hw2
                rw [← HF.out, nameL_name _ hlen hw2, ← HAC.out, HFI.out]
              rw [hi] at hI
              have HI := Lib.hid hI
              clear hI hi hlong
              go_wp2_with fail
              refine (refLetter (bt s k).toNat _ (by omega)).mono ?_
              rw [LN.out]
              rintro e w2 ⟨rfl, rfl⟩
              go_wp2_with fail
              refine (HI.out _).mono ?_
              rintro e w3 ⟨rfl, b3⟩
              have hcv3 := (own_below O.out b3).conv
              have Z3 := Lib.hid (Z1.out.below b3)
              have B3 := Lib.hid (B1.out.trans (b3.mono B1.out.size))
              obtain ⟨f0, f1, f2, f3, f4, f5, f6, f7, f8, gf⟩ := Z3.out.facts
              clear b3 hcv
              go_wp2_with fail
              exact bodyPost_ret (v := .agg #[.int .i64 1, .string ⟨acc.toArray⟩, .int .i64 0, .bool false, .int .i64 0, .int .i64 0, .int .i64 0, .int .i64 (k : Nat), .int .i64 0]) (by simp [results, Tryd.results43, go_sem, f0, f1, f2, f3, f4, f5, f6, f7, f8]) rfl ⟨_, rfl, fv_ok 1 0 k acc, set9_below (Nat.le_refl _) B3.out _ _ _ _ _ _ _ _ _⟩
      · clear hgo
        by_cases hlong : 32 < k
        · obtain rfl : f = bad 3 := by rw [← HF.out]; exact nameL_long _ (by rw [HFI.out]; exact hlong)
          rw [decide_eq_true hlong]
          obtain ⟨f0, f1, f2, f3, f4, f5, f6, f7, f8, gf⟩ := Z1.out.facts
          clear hI hcv hlong
          go_wp2_with fail
          exact bodyPost_ret (v := .agg #[.int .i64 0, .string ⟨#[]⟩, .int .i64 0, .bool false, .int .i64 0, .int .i64 0, .int .i64 0, .int .i64 0, .int .i64 3]) (by simp [results, Tryd.results43, go_sem, f0, f1, f2, f3, f4, f5, f6, f7, f8]) rfl ⟨_, rfl, fv_bad 3, set9_below (Nat.le_refl _) B1.out _ _ _ _ _ _ _ _ _⟩
        · rw [decide_eq_false hlong]
          cases hi : isIn ⟨acc.toArray⟩ (wordsOf 0) with
          | true =>
            obtain rfl : f = ⟨2, acc, 0, k, 0⟩ := by
              have hlen : ¬ 32 < (s.data.toList.takeWhile isNam).length := by rw [HFI.out]; exact hlong
              have hw2 := hi
              rw [HAC.out] at hw2
              rw [← HF.out, nameL_word _ hlen hw2, ← HAC.out, HFI.out]
            rw [hi] at hI
            have HI := Lib.hid hI
            clear hI hi hlong
            go_wp2_with fail
            refine (HI.out _).mono ?_
            rintro e w3 ⟨rfl, b3⟩
            have hcv3 := (own_below O.out b3).conv
            have Z3 := Lib.hid (Z1.out.below b3)
            have B3 := Lib.hid (B1.out.trans (b3.mono B1.out.size))
            obtain ⟨f0, f1, f2, f3, f4, f5, f6, f7, f8, gf⟩ := Z3.out.facts
            clear b3 hcv
            go_wp2_with fail
            exact bodyPost_ret (v := .agg #[.int .i64 2, .string ⟨acc.toArray⟩, .int .i64 0, .bool false, .int .i64 0, .int .i64 0, .int .i64 0, .int .i64 (k : Nat), .int .i64 0]) (by simp [results, Tryd.results43, go_sem, f0, f1, f2, f3, f4, f5, f6, f7, f8]) rfl ⟨_, rfl, fv_ok 2 0 k acc, set9_below (Nat.le_refl _) B3.out _ _ _ _ _ _ _ _ _⟩
          | false =>
            obtain rfl : f = ⟨1, acc, 0, k, 0⟩ := by
              have hlen : ¬ 32 < (s.data.toList.takeWhile isNam).length := by rw [HFI.out]; exact hlong
              have hw2 := hi
              rw [HAC.out] at hw2
              rw [← HF.out, nameL_name _ hlen hw2, ← HAC.out, HFI.out]
            rw [hi] at hI
            have HI := Lib.hid hI
            clear hI hi hlong
            go_wp2_with fail
            refine (HI.out _).mono ?_
            rintro e w3 ⟨rfl, b3⟩
            have hcv3 := (own_below O.out b3).conv
            have Z3 := Lib.hid (Z1.out.below b3)
            have B3 := Lib.hid (B1.out.trans (b3.mono B1.out.size))
            obtain ⟨f0, f1, f2, f3, f4, f5, f6, f7, f8, gf⟩ := Z3.out.facts
            clear b3 hcv
            go_wp2_with fail
            exact bodyPost_ret (v := .agg #[.int .i64 1, .string ⟨acc.toArray⟩, .int .i64 0, .bool false, .int .i64 0, .int .i64 0, .int .i64 0, .int .i64 (k : Nat), .int .i64 0]) (by simp [results, Tryd.results43, go_sem, f0, f1, f2, f3, f4, f5, f6, f7, f8]) rfl ⟨_, rfl, fv_ok 1 0 k acc, set9_below (Nat.le_refl _) B3.out _ _ _ _ _ _ _ _ _⟩
end Go.Proofs.YtjdmaindoohmkaaDoor.P
