/-
  WordsAgain, walked.
-/
import Derived.Test.YthfldflilddpfaaDoorFreWalk
namespace Go.Proofs.YthfldflilddpfaaDoor
open Go.RowKit

theorem again_self {s t u : ByteArray} {ss : List ByteArray} (h : IsFresh s ss t) (g : IsFresh t ss u) : u = t := g.uniq (IsFresh.self h.not)
theorem again_ne {s t u : ByteArray} {ss : List ByteArray} (g : IsFresh s (ss ++ [t]) u) : (u.toList == t.toList) = false := by
  rw [beq_false]
  intro e
  refine g.not ((mem_used _ _).2 (.inl ?_))
  rw [e]
  simp

set_option maxHeartbeats 1600000 in
theorem wordsAgain_walk (s : ByteArray) (a : Option Addr) (len cap : Nat) (ss : List ByteArray) (w : World) (hs : s.size ≤ maxLen) (hS : IsStrs w a len cap ss) :
    Calls Tryd.prog 8 #[.string s, .slice a len cap] w fun e w' => e = .returned (.bool true) ∧ Below w.heap.size w w' := by
  have HS := Lib.hid hS
  have HZ := Lib.hid hs
  have hcap := hS.len_le
  clear hS hs
  by_cases h : 60 < len
  · have hd : decide ((60 : Int) < (len : Int)) = true := by simp; omega
    go_enter Tryd.func8, Tryd.ntmps8
    go_wp2_with fail
    refine (awake_any _).mono ?_
    rintro e w3 ⟨rfl, b3⟩
    have B3 := Lib.hid b3
    clear b3
    go_wp2_with fail
    go_ret
    exact ⟨rfl, B3.out⟩
  · have hd : decide ((60 : Int) < (len : Int)) = false := by simp; omega
    by_cases h2 : 5000 < s.size
    · have hd2 : decide ((5000 : Int) < (s.size : Int)) = true := by simp; omega
      go_enter Tryd.func8, Tryd.ntmps8
      go_wp2_with fail
      refine (awake_any _).mono ?_
      rintro e w3 ⟨rfl, b3⟩
      have B3 := Lib.hid b3
      clear b3
      go_wp2_with fail
      go_ret
      exact ⟨rfl, B3.out⟩
    · have hd2 : decide ((5000 : Int) < (s.size : Int)) = false := by simp; omega
      go_enter Tryd.func8, Tryd.ntmps8
      go_wp2_with fail
      refine (fresh_any s a len cap ss _ HZ.out HS.out (by omega)).mono ?_
      rintro e w1 ⟨t, rfl, ht, htz, b1⟩
      have HT := Lib.hid ht
      have B1 := Lib.hid b1
      clear ht b1
      have hq1 : w.heap.size ≤ w1.heap.size := B1.out.size
      have B1' := Lib.hid (B1.out.alloc B1.out.size (.cells #[] 9))
      have O1 := Lib.hid (OwnS.lit w1 [] (by decide))
      have S1 := Lib.hid (HS.out.below B1'.out)
      have hsl := HS.out.1
      have tok1 : True := trivial
      have tok2 : True := trivial
      go_wp2_with (first
        | (at_builtin
           have _t := tok1
           refine wp_appS rfl (.tmp 20) (.tmp 21) rfl O1.out (by simp) S1.out rfl rfl (by simp; omega) ?_
           intro v2 w2 hown2 hgrow2
           have B2 := Lib.hid (B1'.out.grown hgrow2 (by simp; omega) (fun j hj => by have := (O1.out.lt j hj).1; omega))
           have O2 := Lib.hid hown2
           have hq2 : w1.heap.size ≤ w2.heap.size := by have := hgrow2.size; simp at this; omega
           have B2' := Lib.hid (B2.out.alloc B2.out.size (.cells (([t] : List ByteArray).map Value.string).toArray 9))
           have O2' := Lib.hid (O2.out.below ((Below.refl w2.heap.size w2).alloc (Nat.le_refl _) (.cells (([t] : List ByteArray).map Value.string).toArray 9)))
           have S2 := Lib.hid (lit_strs w2 [t] (by simp [maxLen]) (by simpa using htz))
           clear hown2 hgrow2 tok1)
        | (at_builtin
           have _t := tok2
           refine wp_appS rfl (.tmp 22) (.tmp 24) rfl O2'.out (by simp; omega) S2.out rfl rfl (by simp; omega) ?_
           intro v3 w3 hown3 hgrow3
           have B3 := Lib.hid (B2'.out.grown hgrow3 (by simp; omega) (fun j hj => by have := (O2'.out.lt j hj).1; omega))
           have O3 := Lib.hid hown3
           clear hown3 hgrow3 tok2))
      obtain ⟨a3, c3, hv3, S3⟩ := O3.out.strs (fun x hx => by
        rcases List.mem_append.1 hx with g | g
        · exact HS.out.2.2.2.1 x (by simpa using g)
        · rw [List.mem_singleton.1 g]; exact htz)
      have e3 : (ss ++ [t]).length = len + 1 := by simp; omega
      rw [List.nil_append, e3] at hv3 S3
      subst hv3
      clear e3
      have H3 := Lib.hid S3
      clear S3 O3 O2' O2 S2 S1 O1 B2' B2 B1'
      go_wp2_with fail
      refine (fresh_any s a3 (len + 1) c3 (ss ++ [t]) _ HZ.out H3.out (by omega)).mono ?_
      rintro e w4 ⟨u, rfl, hu, _, b4⟩
      have HU := Lib.hid hu
      have B4 := Lib.hid (B3.out.trans (b4.mono B3.out.size))
      have H4 := Lib.hid (H3.out.below b4)
      clear hu b4 B3 H3
      go_wp2_with fail
      refine (fresh_any t a len cap ss _ htz (HS.out.below B4.out) (by omega)).mono ?_
      rintro e w5 ⟨t', rfl, ht', _, b5⟩
      have ht2 := again_self HT.out ht'
      subst ht2
      have B5 := Lib.hid (B4.out.trans (b5.mono B4.out.size))
      have H5 := Lib.hid (H4.out.below b5)
      clear ht' b5 B4 H4
      have hb1 : (t'.toList == t'.toList) = true := by simp
      have hb2 := again_ne HU.out
      go_wp2_with fail
      refine (among_any a3 (len + 1) c3 (ss ++ [t']) u _ H5.out).mono ?_
      rw [(not_words HU.out).2.2]
      rintro e w6 ⟨rfl, rfl⟩
      go_wp2_with fail
      refine (awake_any _).mono ?_
      rintro e w8 ⟨rfl, b8⟩
      have B8 := Lib.hid (B5.out.trans (b8.mono B5.out.size))
      clear b8 B5
      go_wp2_with fail
      go_ret
      exact ⟨rfl, B8.out⟩
end Go.Proofs.YthfldflilddpfaaDoor
