/-
  WordsClash, walked.
-/
import Derived.Test.YthfldflilddpfaaDoorAwk
namespace Go.Proofs.YthfldflilddpfaaDoor
open Go.RowKit

set_option maxHeartbeats 800000 in
theorem wordsClash_walk (d : Int) (a : Option Addr) (len cap : Nat) (ss : List ByteArray) (w : World) (hS : IsStrs w a len cap ss) :
    Calls Tryd.prog 7 #[.int .i64 d, .slice a len cap] w fun e w' => e = .returned (.bool true) ∧ Below w.heap.size w w' := by
  have HS := Lib.hid hS
  have hcap := hS.len_le
  clear hS
  by_cases h : 60 < len
  · have hd : decide ((60 : Int) < (len : Int)) = true := by simp; omega
    go_enter Tryd.func7, Tryd.ntmps7
    go_wp2_with fail
    refine (awake_any _).mono ?_
    rintro e w3 ⟨rfl, b3⟩
    have B3 := Lib.hid b3
    clear b3
    go_wp2_with fail
    go_ret
    exact ⟨rfl, B3.out⟩
  · have hd : decide ((60 : Int) < (len : Int)) = false := by simp; omega
    go_enter Tryd.func7, Tryd.ntmps7
    go_wp2_with fail
    refine (clash_any d a len cap ss _ HS.out (by omega)).mono ?_
    rintro e w1 ⟨v1, rfl, o1, b1⟩
    obtain ⟨a1, c1, rfl, S1⟩ := o1.strs (clash_ok d ss)
    have H1 := Lib.hid S1
    have B1 := Lib.hid b1
    clear S1 b1 o1
    go_wp2_with fail
    refine (refClash_any d a len cap ss _ (HS.out.below B1.out) (by omega)).mono ?_
    rintro e w2 ⟨v2, rfl, o2, b2⟩
    obtain ⟨a2, c2, rfl, S2⟩ := o2.strs (clash_ok d ss)
    have H2 := Lib.hid S2
    have H1' := Lib.hid (H1.out.below b2)
    have B2 := Lib.hid (B1.out.trans (b2.mono B1.out.size))
    clear S2 b2 o2 H1 B1
    go_wp2_with fail
    refine (sameTexts_any _ _ _ _ _ _ _ _ _ H1'.out H2.out).mono ?_
    rw [sameL_refl]
    rintro e w3 ⟨rfl, n3, rfl⟩
    have B3 := Lib.hid (below_drewN B2.out n3)
    generalize w2.drewN n3 = w3 at B3 ⊢
    clear B2 H1' H2
    go_wp2_with fail
    refine (clash_any d none 0 0 [] _ (IsStrs.nil _) (by omega)).mono ?_
    rintro e w4 ⟨v4, rfl, o4, b4⟩
    obtain ⟨a4, c4, rfl, S4⟩ := o4.strs (clash_ok d [])
    have B4 := Lib.hid (B3.out.trans (b4.mono B3.out.size))
    clear S4 b4 o4 B3
    rw [clash_nil, List.length_nil]
    go_wp2_with fail
    refine (awake_any _).mono ?_
    rintro e w5 ⟨rfl, b5⟩
    have B5 := Lib.hid (B4.out.trans (b5.mono B4.out.size))
    clear b5 B4
    go_wp2_with fail
    go_ret
    exact ⟨rfl, B5.out⟩
end Go.Proofs.YthfldflilddpfaaDoor
