/-
  WordsFresh, walked.
-/
import Derived.Test.YthfldflilddpfaaDoorAwk
namespace Go.Proofs.YthfldflilddpfaaDoor
open Go.RowKit

theorem not_words {s t : ByteArray} {ss : List ByteArray} (h : IsFresh s ss t) : isIn t (wordsOf 0) = false ∧ isIn t (wordsOf 1) = false ∧ isIn t ss = false := by
  have h1 := (isIn_not _ _).2 h.not
  rw [isIn_used] at h1
  revert h1
  cases isIn t ss <;> cases isIn t (wordsOf 0) <;> cases isIn t (wordsOf 1) <;> simp
theorem same_iff {s t : ByteArray} {ss : List ByteArray} (h : IsFresh s ss t) : (t.toList == s.toList) = !isIn s (used ss) := by
  cases hb : isIn s (used ss) with
  | true =>
    rw [Bool.not_true, beq_false]
    intro e
    exact (h.eq_iff.1 e) ((isIn_iff _ _).1 hb)
  | false =>
    rw [Bool.not_false, beq_iff]
    exact h.eq_iff.2 ((isIn_not _ _).1 hb)

set_option maxHeartbeats 1600000 in
theorem wordsFresh_walk (s : ByteArray) (a : Option Addr) (len cap : Nat) (ss : List ByteArray) (w : World) (hs : s.size ≤ maxLen) (hS : IsStrs w a len cap ss) :
    Calls Tryd.prog 5 #[.string s, .slice a len cap] w fun e w' => e = .returned (.bool true) ∧ Below w.heap.size w w' := by
  have HS := Lib.hid hS
  have HZ := Lib.hid hs
  have hcap := hS.len_le
  clear hS hs
  by_cases h : 60 < len
  · have hd : decide ((60 : Int) < (len : Int)) = true := by simp; omega
    go_enter Tryd.func5, Tryd.ntmps5
    go_wp2_with fail
    refine (awake_any _).mono ?_
    rintro e w3 ⟨rfl, b3⟩
    have B3 := Lib.hid b3
    clear b3
    go_wp2_with fail
    go_ret
    exact ⟨rfl, B3.out⟩
  · have hd : decide ((60 : Int) < (len : Int)) = false := by simp; omega
    by_cases h2 : 5000 < s.size
    · have hd2 : decide ((5000 : Int) < (s.size : Int)) = true := by simp; omega
      go_enter Tryd.func5, Tryd.ntmps5
      go_wp2_with fail
      refine (awake_any _).mono ?_
      rintro e w3 ⟨rfl, b3⟩
      have B3 := Lib.hid b3
      clear b3
      go_wp2_with fail
      go_ret
      exact ⟨rfl, B3.out⟩
    · have hd2 : decide ((5000 : Int) < (s.size : Int)) = false := by simp; omega
      go_enter Tryd.func5, Tryd.ntmps5
      go_wp2_with fail
      refine (fresh_any s a len cap ss _ HZ.out HS.out (by omega)).mono ?_
      rintro e w1 ⟨t, rfl, ht, htz, b1⟩
      have HT := Lib.hid ht
      have B1 := Lib.hid b1
      clear ht b1
      go_wp2_with fail
      refine (refFresh_any s a len cap ss _ HZ.out (HS.out.below B1.out) (by omega)).mono ?_
      rintro e w2 ⟨t', rfl, ht', _, b2⟩
      obtain rfl := HT.out.uniq ht'
      have B2 := Lib.hid (B1.out.trans (b2.mono B1.out.size))
      clear ht' b2 B1
      have hbb : (t.toList == t.toList) = true := by simp
      go_wp2_with fail
      refine (is_any 0 t _).mono ?_
      rw [(not_words HT.out).1]
      rintro e w3 ⟨rfl, b3⟩
      have B3 := Lib.hid (B2.out.trans (b3.mono B2.out.size))
      clear b3 B2
      go_wp2_with fail
      refine (is_any 1 t _).mono ?_
      rw [(not_words HT.out).2.1]
      rintro e w4 ⟨rfl, b4⟩
      have B4 := Lib.hid (B3.out.trans (b4.mono B3.out.size))
      clear b4 B3
      go_wp2_with fail
      refine (among_any a len cap ss t _ (HS.out.below B4.out)).mono ?_
      rw [(not_words HT.out).2.2]
      rintro e w5 ⟨rfl, rfl⟩
      have HE := Lib.hid (same_iff HT.out)
      have HU := Lib.hid (isIn_used s ss)
      go_wp2_with fail
      refine (is_any 0 s _).mono ?_
      rintro e w6 ⟨rfl, b6⟩
      have B6 := Lib.hid (B4.out.trans (b6.mono B4.out.size))
      clear b6 B4
      cases h0 : isIn s (wordsOf 0) with
      | true =>
        have he : (t.toList == s.toList) = false := by rw [HE.out, HU.out, h0]; simp
        clear h0
        rw [he]
        go_wp2_with fail
        refine (awake_any _).mono ?_
        rintro e w8 ⟨rfl, b8⟩
        have B8 := Lib.hid (B6.out.trans (b8.mono B6.out.size))
        clear b8 B6
        go_wp2_with fail
        go_ret
        exact ⟨rfl, B8.out⟩
      | false =>
        go_wp2_with fail
        refine (is_any 1 s _).mono ?_
        rintro e w7 ⟨rfl, b7⟩
        have B7 := Lib.hid (B6.out.trans (b7.mono B6.out.size))
        clear b7 B6
        cases h1 : isIn s (wordsOf 1) with
        | true =>
          have he : (t.toList == s.toList) = false := by rw [HE.out, HU.out, h1]; simp
          clear h0 h1
          rw [he]
          go_wp2_with fail
          refine (awake_any _).mono ?_
          rintro e w8 ⟨rfl, b8⟩
          have B8 := Lib.hid (B7.out.trans (b8.mono B7.out.size))
          clear b8 B7
          go_wp2_with fail
          go_ret
          exact ⟨rfl, B8.out⟩
        | false =>
          go_wp2_with fail
          refine (among_any a len cap ss s _ (HS.out.below B7.out)).mono ?_
          rintro e w9 ⟨rfl, rfl⟩
          have he : (t.toList == s.toList) = !isIn s ss := by rw [HE.out, HU.out, h0, h1]; simp
          clear h0 h1
          rw [he]
          generalize isIn s ss = r
          clear he
          cases r with
          | true =>
            go_wp2_with fail
            refine (awake_any _).mono ?_
            rintro e w8 ⟨rfl, b8⟩
            have B8 := Lib.hid (B7.out.trans (b8.mono B7.out.size))
            clear b8 B7
            go_wp2_with fail
            go_ret
            exact ⟨rfl, B8.out⟩
          | false =>
            go_wp2_with fail
            refine (awake_any _).mono ?_
            rintro e w8 ⟨rfl, b8⟩
            have B8 := Lib.hid (B7.out.trans (b8.mono B7.out.size))
            clear b8 B7
            go_wp2_with fail
            go_ret
            exact ⟨rfl, B8.out⟩
end Go.Proofs.YthfldflilddpfaaDoor
