/-
  TextPlaces, walked.
-/
import Derived.Test.YtlmigpobillkoaaDoorAwake
import Derived.Test.YtlmigpobillkoaaDoorAt
import Derived.Lib.QuietBelow
namespace Go.Proofs.YtlmigpobillkoaaDoor
open Go.RowKit Go.Sort

set_option maxHeartbeats 1000000 in
theorem textPlaces_walk (s : ByteArray) (at_ : Int) (w : World) (hs : s.size ≤ maxLen) (htab : Lib.TabIs Tryd.prog w "internal/strconv.uint64pow10" .u64 Lib.pow10Tab) :
    Calls Tryd.prog 4 #[.string s, .int .i64 at_] w fun e w' => e = .returned (.bool true) ∧ Below w.heap.size w w' := by
  have T := Lib.hid htab
  clear htab
  by_cases hl : (5000 : Int) < (s.size : Int)
  · go_enter Tryd.func4, Tryd.ntmps4
    go_wp2_with fail
    refine (awake_any _ T.out).mono ?_
    rintro e w' ⟨rfl, b⟩
    have B := Lib.hid b
    clear b
    go_wp2_with fail
    go_ret
    exact ⟨rfl, B.out⟩
  · go_enter Tryd.func4, Tryd.ntmps4
    go_wp2_with fail
    refine (at_any s at_ _ hs).mono ?_
    have hk : skipN at_ 0 s ≤ s.size := by unfold skipN; omega
    generalize hkk : skipN at_ 0 s = k at *
    have KK := Lib.hid hkk
    clear hkk
    unfold posV
    rintro e w1 ⟨rfl, b1⟩
    have B1 := Lib.hid b1
    clear b1
    go_wp2_with fail
    obtain ⟨w2, hw2⟩ : ∃ w2, w2 = w1.alloc (.cells #[.int .i64 (k : Nat), .int .i64 (lineOf s k : Nat), .int .i64 (colOf s k : Nat)] 36) := ⟨_, rfl⟩
    rw [← hw2]
    have P2 : PosAt w2 w1.heap.size s k := ⟨by rw [hw2, heap_new]⟩
    have B2 := Lib.hid (show Below w.heap.size w w2 by rw [hw2]; exact B1.out.alloc B1.out.size _)
    have k0 := cell_regrown P2.c0
    have k1 := cell_regrown P2.c1
    have k2 := cell_regrown P2.c2
    have T2 := Lib.hid (Joins.tab_stays gPow T.out B2.out (Nat.le_refl _))
    clear hw2 P2 B1
    have hle := line_le s k
    have hce := col_le s k
    have hd1 : decide ((colOf s k : Int) ≤ (k : Int)) = true := by simp; omega
    have hd2 : decide ((lineOf s k : Int) ≤ (k : Int)) = true := by simp; omega
    have hd3 : decide ((k : Int) ≤ (s.size : Int)) = true := by simp; omega
    have hd4 : decide (0 ≤ (k : Int)) = true := by simp
    have cR : ∀ d os, Calls Tryd.prog 20 #[.string s, .int .i64 at_] (grow (redrawn w2 d) os) fun e w'' => e = .returned (posV s k) ∧ ∃ p : Regrown, w'' = grow (redrawn w2 p.d) p.os := fun d os => by
      have := refAt_any s at_ (grow (redrawn w2 d) os) hs
      rw [KK.out] at this
      exact Calls.regrown_of this
    have cA : ∀ d os, Calls Tryd.prog 11 #[] (grow (redrawn w2 d) os) fun e w'' => e = .returned (.bool true) ∧ ∃ p : Regrown, w'' = grow (redrawn w2 p.d) p.os := fun d os =>
      Calls.regrown_of (awake_any _ (Joins.tab_stays gPow T2.out (below_regrown w2 d os) (Nat.le_refl _)))
    unfold posV at cR
    have CR := Lib.hid cR
    have CA := Lib.hid cA
    clear cR cA
    refine wp_region_quiet_below (by kernel_rfl) (by kernel_rfl) ?_
    repeat (first | go_big_quiet_step ((first | exact CR.out _ _ | exact CA.out _ _)) | quiet_step ((first | exact CR.out _ _ | exact CA.out _ _)))
    refine wpQuiet_nil ?_
    intro _ hw'
    obtain ⟨⟨dq, osq⟩, hw''⟩ := hw'
    subst hw''
    go_wp2_with fail
    go_ret
    exact ⟨rfl, B2.out.trans ((below_regrown w2 dq osq).mono B2.out.size)⟩
end Go.Proofs.YtlmigpobillkoaaDoor
