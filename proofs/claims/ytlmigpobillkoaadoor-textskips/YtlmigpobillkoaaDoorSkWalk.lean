/-
  TextSkips, walked.
-/
import Derived.Test.YtlmigpobillkoaaDoorAwake
import Derived.Test.YtlmigpobillkoaaDoorAt
import Derived.Lib.QuietBelow
namespace Go.Proofs.YtlmigpobillkoaaDoor
open Go.RowKit Go.Sort

theorem lc_mono (s : ByteArray) (k m : Nat) (h : k ≤ m) (hm : m ≤ s.size) : lineOf s k < lineOf s m ∨ lineOf s k = lineOf s m ∧ colOf s k ≤ colOf s m := by
  induction m with
  | zero =>
    have : k = 0 := by omega
    subst this
    exact .inr ⟨rfl, Nat.le_refl _⟩
  | succ m ih =>
    by_cases e : k = m + 1
    · subst e; exact .inr ⟨rfl, Nat.le_refl _⟩
    · have := ih (by omega) (by omega)
      by_cases hn : (bt s m).toNat = 10
      · have e1 := line_nl s m (by omega) hn
        left; omega
      · have e1 := line_no s m (by omega) hn
        have e2 := col_no s m (by omega) hn
        omega

set_option maxHeartbeats 2000000 in
theorem textSkips_walk (s : ByteArray) (a b : Nat) (w : World) (ha : a ≤ 65535) (hb : b ≤ 65535) (hs : s.size ≤ maxLen) (htab : Lib.TabIs Tryd.prog w "internal/strconv.uint64pow10" .u64 Lib.pow10Tab) :
    Calls Tryd.prog 9 #[.string s, .int .u16 (a : Int), .int .u16 (b : Int)] w fun e w' => e = .returned (.bool true) ∧ Below w.heap.size w w' := by
  have T := Lib.hid htab
  clear htab
  by_cases hl : (5000 : Int) < (s.size : Int)
  · go_enter Tryd.func9, Tryd.ntmps9
    go_wp2_with fail
    refine (awake_any _ T.out).mono ?_
    rintro e w' ⟨rfl, b⟩
    have B := Lib.hid b
    clear b
    go_wp2_with fail
    go_ret
    exact ⟨rfl, B.out⟩
  · obtain ⟨n, hn⟩ : ∃ n, n = skipN a 0 s := ⟨_, rfl⟩
    obtain ⟨m, hm⟩ : ∃ m, m = skipN b n s := ⟨_, rfl⟩
    have hnm : skipN ((a : Int) + b) 0 s = n + m := by unfold skipN at *; omega
    have hnm2 : skipN ((n : Int) + m) 0 s = n + m := by unfold skipN at *; omega
    have hn2 : skipN (n : Int) 0 s = n := by unfold skipN at *; omega
    have hmono := lc_mono s n (n + m) (by omega) (by unfold skipN at *; omega)
    have hnl : n ≤ 65535 := by unfold skipN at *; omega
    have hml : m ≤ 65535 := by unfold skipN at *; omega
    have HN := Lib.hid hn
    have HM := Lib.hid hm
    have HNM := Lib.hid hnm
    have HNM2 := Lib.hid hnm2
    have HN2 := Lib.hid hn2
    have HMO := Lib.hid hmono
    clear hn hm hnm hnm2 hn2 hmono
    go_enter Tryd.func9, Tryd.ntmps9
    go_wp2_with fail
    refine (new2 s _).mono ?_
    rintro e w1 ⟨rfl, c1, b1⟩
    have C1 := Lib.hid c1
    have B1 := Lib.hid b1
    have hz1 := c1.lt
    clear c1 b1
    go_wp2_with fail
    refine (new2 s _).mono ?_
    rintro e w2 ⟨rfl, d2, b2⟩
    have C2 := Lib.hid (C1.out.stays (b2.block _ hz1))
    have D2 := Lib.hid d2
    have B2 := Lib.hid (B1.out.trans (b2.mono B1.out.size))
    clear d2 b2 C1 B1
    go_wp2_with fail
    refine (skip_any w.heap.size 0 a s _ C2.out hs).mono ?_
    rw [Nat.zero_add, ← HN.out]
    rintro e w3 ⟨rfl, c3, o3⟩
    have C3 := Lib.hid c3
    have D3 := Lib.hid (D2.out.stays (o3.block _ (by omega) D2.out.lt))
    have B3 := Lib.hid (B2.out.trans (o3.below (B := w.heap.size) (by omega) B2.out.size))
    clear c3 o3 C2 D2 B2
    go_wp2_with fail
    refine (pos_any w.heap.size n s _ C3.out).mono ?_
    rintro e w4 ⟨rfl, b4⟩
    have C4 := Lib.hid (C3.out.stays (b4.block _ C3.out.lt))
    have D4 := Lib.hid (D3.out.stays (b4.block _ D3.out.lt))
    have B4 := Lib.hid (B3.out.trans (b4.mono B3.out.size))
    clear b4 C3 D3 B3
    go_wp2_with fail
    obtain ⟨w5, hw5⟩ : ∃ w5, w5 = w4.alloc (.cells #[.int .i64 (n : Nat), .int .i64 (lineOf s n : Nat), .int .i64 (colOf s n : Nat)] 36) := ⟨_, rfl⟩
    have P5 := Lib.hid (show PosAt w5 w4.heap.size s n from ⟨by rw [hw5, heap_new]⟩)
    have b5 : Below w4.heap.size w4 w5 := by rw [hw5]; exact (Below.refl _ _).alloc (Nat.le_refl _) _
    rw [← hw5]
    clear hw5
    have C5 := Lib.hid (C4.out.stays (b5.block _ C4.out.lt))
    have D5 := Lib.hid (D4.out.stays (b5.block _ D4.out.lt))
    have B5 := Lib.hid (B4.out.trans (b5.mono B4.out.size))
    have hlt4 := C4.out.lt
    have hlt4d := D4.out.lt
    clear b5 C4 D4 B4
    refine (skip_any w.heap.size n b s _ C5.out hs).mono ?_
    rw [← HM.out]
    rintro e w6 ⟨rfl, c6, o6⟩
    have C6 := Lib.hid c6
    have D6 := Lib.hid (D5.out.stays (o6.block _ (by omega) D5.out.lt))
    have P6 := Lib.hid (show PosAt w6 w4.heap.size s n from ⟨(o6.block _ (by omega) P5.out.lt).trans P5.out.blk⟩)
    have B6 := Lib.hid (B5.out.trans (o6.below (B := w.heap.size) (by omega) B5.out.size))
    clear c6 o6 C5 D5 B5 P5
    go_wp2_with fail
    refine (skip_any w1.heap.size 0 ((a : Int) + b) s _ D6.out hs).mono ?_
    rw [Nat.zero_add, HNM.out]
    rintro e w7 ⟨rfl, d7, o7⟩
    have D7 := Lib.hid d7
    have C7 := Lib.hid (C6.out.stays (o7.block _ (by omega) C6.out.lt))
    have P7 := Lib.hid (show PosAt w7 w4.heap.size s n from ⟨(o7.block _ (by omega) P6.out.lt).trans P6.out.blk⟩)
    have B7 := Lib.hid (B6.out.trans (o7.below (B := w.heap.size) (by omega) B6.out.size))
    clear d7 o7 C6 D6 B6 P6
    have hq : (((n : Int) + m) != ((n : Int) + m)) = false := by simp
    go_wp2_with fail
    refine (pos_any w.heap.size (n + m) s _ C7.out).mono ?_
    rintro e w8 ⟨rfl, b8⟩
    have C8 := Lib.hid (C7.out.stays (b8.block _ C7.out.lt))
    have D8 := Lib.hid (D7.out.stays (b8.block _ D7.out.lt))
    have P8 := Lib.hid (show PosAt w8 w4.heap.size s n from ⟨(b8.block _ P7.out.lt).trans P7.out.blk⟩)
    have B8 := Lib.hid (B7.out.trans (b8.mono B7.out.size))
    clear b8 C7 D7 P7 B7
    go_wp2_with fail
    refine (pos_any w1.heap.size (n + m) s _ D8.out).mono ?_
    rintro e w9 ⟨rfl, b9⟩
    have C9 := Lib.hid (C8.out.stays (b9.block _ C8.out.lt))
    have P9 := Lib.hid (show PosAt w9 w4.heap.size s n from ⟨(b9.block _ P8.out.lt).trans P8.out.blk⟩)
    have B9 := Lib.hid (B8.out.trans (b9.mono B8.out.size))
    clear b9 C8 D8 P8 B8
    go_wp2_with fail
    refine (pos_any w.heap.size (n + m) s _ C9.out).mono ?_
    rintro e wa ⟨rfl, ba⟩
    have PA := Lib.hid (show PosAt wa w4.heap.size s n from ⟨(ba.block _ P9.out.lt).trans P9.out.blk⟩)
    have BA := Lib.hid (B9.out.trans (ba.mono B9.out.size))
    clear ba C9 P9 B9
    go_wp2_with fail
    obtain ⟨wf, hwf⟩ : ∃ wf, wf = wa.alloc (.cells #[.int .i64 ((n : Int) + m), .int .i64 (lineOf s (n + m) : Nat), .int .i64 (colOf s (n + m) : Nat)] 36) := ⟨_, rfl⟩
    have PF : PosAt wf wa.heap.size s (n + m) := ⟨by rw [hwf, heap_new, Int.natCast_add]⟩
    have ba : Below wa.heap.size wa wf := by rw [hwf]; exact (Below.refl _ _).alloc (Nat.le_refl _) _
    have PN : PosAt wf w4.heap.size s n := ⟨(ba.block _ PA.out.lt).trans PA.out.blk⟩
    have BF := Lib.hid (BA.out.trans (ba.mono BA.out.size))
    rw [← hwf]
    have k0 := cell_regrown PF.c0
    rw [Int.natCast_add] at k0
    have k1 := cell_regrown PF.c1
    have k2 := cell_regrown PF.c2
    have n0 := cell_regrown PN.c0
    have n1 := cell_regrown PN.c1
    have n2 := cell_regrown PN.c2
    have TF := Lib.hid (Joins.tab_stays gPow T.out BF.out (Nat.le_refl _))
    clear hwf PF ba PN PA BA
    have r1 : IntKind.i64.wrap ((n : Int) + m) = (n : Int) + m := IntWalk.i64_in _ (by omega)
    have hd0 : decide ((n : Int) ≤ (n : Int) + m) = true := by simp; omega
    have cR1 : ∀ d os, Calls Tryd.prog 21 #[.string s, .int .i64 (n : Int)] (grow (redrawn wf d) os) fun e w'' => e = .returned (.agg #[.int .i64 (n : Nat), .int .i64 (lineOf s n : Nat), .int .i64 (colOf s n : Nat)]) ∧ ∃ p : Regrown, w'' = grow (redrawn wf p.d) p.os := fun d os => by
      have := at_any s (n : Int) (grow (redrawn wf d) os) hs
      rw [HN2.out] at this
      exact Calls.regrown_of this
    have cR2 : ∀ d os, Calls Tryd.prog 21 #[.string s, .int .i64 ((n : Int) + m)] (grow (redrawn wf d) os) fun e w'' => e = .returned (.agg #[.int .i64 ((n : Int) + m), .int .i64 (lineOf s (n + m) : Nat), .int .i64 (colOf s (n + m) : Nat)]) ∧ ∃ p : Regrown, w'' = grow (redrawn wf p.d) p.os := fun d os => by
      have := at_any s ((n : Int) + m) (grow (redrawn wf d) os) hs
      rw [HNM2.out] at this
      unfold posV at this
      rw [Int.natCast_add] at this
      exact Calls.regrown_of this
    have cA : ∀ d os, Calls Tryd.prog 11 #[] (grow (redrawn wf d) os) fun e w'' => e = .returned (.bool true) ∧ ∃ p : Regrown, w'' = grow (redrawn wf p.d) p.os := fun d os =>
      Calls.regrown_of (awake_any _ (Joins.tab_stays gPow TF.out (below_regrown wf d os) (Nat.le_refl _)))
    have CR1 := Lib.hid cR1
    have CR2 := Lib.hid cR2
    have CA := Lib.hid cA
    clear cR1 cR2 cA
    by_cases hll : lineOf s n < lineOf s (n + m)
    · have hd1 : decide ((lineOf s n : Int) < (lineOf s (n + m) : Int)) = true := by simp; omega
      have hd1' : decide (lineOf s n < lineOf s (n + m)) = true := by simp; omega
      refine wp_region_quiet_below (by kernel_rfl) (by kernel_rfl) ?_
      repeat (first | go_big_quiet_step ((first | with_reducible exact CR1.out _ _ | with_reducible exact CR2.out _ _ | with_reducible exact CA.out _ _)) | quiet_step ((first | with_reducible exact CR1.out _ _ | with_reducible exact CR2.out _ _ | with_reducible exact CA.out _ _)))
      refine wpQuiet_nil ?_
      intro _ hw'
      obtain ⟨⟨dq, osq⟩, hw''⟩ := hw'
      subst hw''
      go_wp2_with fail
      go_ret
      exact ⟨rfl, BF.out.trans ((below_regrown wf dq osq).mono BF.out.size)⟩
    · have hm2 := HMO.out
      have hd1 : decide ((lineOf s n : Int) < (lineOf s (n + m) : Int)) = false := by simp; omega
      have hd1' : decide (lineOf s n < lineOf s (n + m)) = false := by simp; omega
      have hd2 : ((lineOf s (n + m) : Int) == (lineOf s n : Int)) = true := by simp; omega
      have hd3 : decide ((colOf s n : Int) ≤ (colOf s (n + m) : Int)) = true := by simp; omega
      have hd3' : decide (colOf s n ≤ colOf s (n + m)) = true := by simp; omega
      clear hm2
      refine wp_region_quiet_below (by kernel_rfl) (by kernel_rfl) ?_
      repeat (first | go_big_quiet_step ((first | with_reducible exact CR1.out _ _ | with_reducible exact CR2.out _ _ | with_reducible exact CA.out _ _)) | quiet_step ((first | with_reducible exact CR1.out _ _ | with_reducible exact CR2.out _ _ | with_reducible exact CA.out _ _)))
      refine wpQuiet_nil ?_
      intro _ hw'
      obtain ⟨⟨dq, osq⟩, hw''⟩ := hw'
      subst hw''
      go_wp2_with fail
      go_ret
      exact ⟨rfl, BF.out.trans ((below_regrown wf dq osq).mono BF.out.size)⟩
end Go.Proofs.YtlmigpobillkoaaDoor
