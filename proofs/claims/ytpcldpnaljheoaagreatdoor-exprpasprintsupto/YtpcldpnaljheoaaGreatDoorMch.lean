/-
  The reference's Check and Is of words, walked.
-/
import Derived.Test.YtpcldpnaljheoaaGreatDoorZz6
import Derived.WalkKit
import Derived.WalkSpells
import Derived.WalkLawsBesides
import Derived.BigQuiet
import Derived.Deep.QuietTactic
import Derived.Deep.Draws
import Derived.Deep.Slices
import Derived.Lib.Hide
import Derived.OwnWalk
import Derived.Maps.AppendAt
import Derived.IntWalk
import Derived.Below
import Derived.Lib.ItoaNum
import Derived.Laws.IdiomCopy
import Derived.Laws.Cells
import Derived.Laws.Alloc2
import Derived.Shelf.SlicesQ.Load
namespace Go.Proofs.YtpcldpnaljheoaaGreatDoor
open Go.RowKit
open Go.RowKit Go.ChangeShapes Go.WideShapes Go.Deep

set_option maxHeartbeats 400000 in
set_option maxRecDepth 100000 in
theorem refAll_pas (w : World) : Calls Tryz.prog 150 #[.int .i64 0] w fun e w' => e = .returned (.slice (some ⟨w.heap.size, 0, none⟩) 34 34) ∧ w' = w.alloc (.cells (pasW.map Value.string).toArray 9) := by
  go_enter Tryz.func150, Tryz.ntmps150
  go_wp2_with fail
  go_ret
  exact ⟨rfl, rfl⟩
set_option maxHeartbeats 400000 in
set_option maxRecDepth 100000 in
theorem refAll_cee (w : World) : Calls Tryz.prog 150 #[.int .i64 1] w fun e w' => e = .returned (.slice (some ⟨w.heap.size, 0, none⟩) 21 21) ∧ w' = w.alloc (.cells (ceeW.map Value.string).toArray 9) := by
  go_enter Tryz.func150, Tryz.ntmps150
  go_wp2_with fail
  go_ret
  exact ⟨rfl, rfl⟩
set_option maxHeartbeats 400000 in
set_option maxRecDepth 100000 in
theorem refAll_no (d : Int) (w : World) (h0 : d ≠ 0) (h1 : d ≠ 1) : Calls Tryz.prog 150 #[.int .i64 d] w fun e w' => e = .returned (.slice none 0 0) ∧ w' = w := by
  have e0 : (d == 0) = false := by simpa using h0
  have e1 : (d == 1) = false := by simpa using h1
  go_enter Tryz.func150, Tryz.ntmps150
  go_wp2_with fail
  go_ret
  exact ⟨rfl, rfl⟩
theorem refAll_any (d : Int) (w : World) : Calls Tryz.prog 150 #[.int .i64 d] w (AllPost d w) := by
  by_cases h0 : d = 0
  · subst h0
    refine (refAll_pas w).mono ?_
    rintro e w' ⟨rfl, rfl⟩
    exact allPost_pas w
  · by_cases h1 : d = 1
    · subst h1
      refine (refAll_cee w).mono ?_
      rintro e w' ⟨rfl, rfl⟩
      exact allPost_cee w
    · refine (refAll_no d w h0 h1).mono ?_
      rintro e w' ⟨rfl, rfl⟩
      exact allPost_no d _ h0 h1
set_option maxHeartbeats 400000 in
theorem among_any (a : Option Addr) (len cap : Nat) (ss : List ByteArray) (s : ByteArray) (w : World) (hS : IsStrs w a len cap ss) :
    Calls Tryz.prog 149 #[.slice a len cap, .string s] w fun e w' => e = .returned (.bool (isIn s ss)) ∧ w' = w := by
  have HS := Lib.hid hS
  have hcap := hS.len_le
  clear hS
  generalize hr : isIn s ss = r
  have HR := Lib.hid hr
  clear hr
  go_enter Tryz.func149, Tryz.ntmps149
  go_wp2_with fail
  go_loop [5] (fun i => ∃ k : Nat, k ≤ len ∧ i = .int .i64 k ∧ isIn s (ss.take k) = false) (fun i => len - (intOf i).toNat)
  case atStart => exact ⟨0, Nat.zero_le _, rfl, rfl⟩
  case round =>
    obtain ⟨k, hk, rfl, hno⟩ := hrel
    have HN := Lib.hid hno
    clear hno
    by_cases hlt : k < len
    · obtain ⟨b, o, x, rfl, hx, hxs, hc⟩ := HS.out.at hlt
      have HX := Lib.hid hx
      clear hx
      cases hb : x.toList == s.toList with
      | true =>
        have HT := isIn_take_hit HX.out hb
        obtain rfl : r = true := by rw [← HR.out]; exact HT
        clear HT
        go_wp2_with fail
        go_ret
        exact ⟨rfl, rfl⟩
      | false =>
        have HT := Lib.hid (isIn_take_succ HX.out HN.out hb)
        go_wp2_with fail
        go_round
        case rel => exact ⟨k + 1, by omega, by go_num, HT.out⟩
        case measure => simp [intOf]; omega
    · obtain rfl : r = false := by
        rw [← HR.out, ← HN.out, List.take_of_length_le (by rw [HS.out.1]; omega)]
      go_wp2_with fail
      go_ret
      exact ⟨rfl, rfl⟩
set_option maxHeartbeats 400000 in
theorem refIs_any (d : Int) (s : ByteArray) (w : World) :
    Calls Tryz.prog 98 #[.int .i64 d, .string s] w fun e w' => e = .returned (.bool (isIn s (wordsOf d))) ∧ Below w.heap.size w w' := by
  go_enter Tryz.func98, Tryz.ntmps98
  go_wp2_with fail
  refine (refAll_any d _).mono ?_
  rintro e w1 ⟨v, rfl, ho, hb⟩
  obtain ⟨a, cap, rfl, hS⟩ := ho.strs (words_ok d)
  have HS := Lib.hid hS
  have HB := Lib.hid hb
  clear hS hb ho
  go_wp2_with fail
  refine (among_any _ _ _ _ s _ HS.out).mono ?_
  rintro e w2 ⟨rfl, rfl⟩
  go_wp2_with fail
  go_ret
  exact ⟨rfl, HB.out⟩
theorem int_beq_yes {n : Nat} {m : Nat} (h : n = m) : ((n : Int) == (m : Int)) = true := by simp; omega
set_option maxHeartbeats 800000 in
theorem letter_any (c : UInt8) (f : Bool) (w : World) : Calls Tryz.prog 102 #[.int .u8 (c.toNat : Int), .bool f] w fun e w' => e = .returned (.bool (letter c f)) ∧ w' = w := by
  unfold letter beg goOn
  have hc := toNat_lt c
  generalize c.toNat = n at *
  have fin : ∀ r : Bool, (decide ((97 : Int) ≤ (n : Int)) = true ∧ decide ((n : Int) ≤ 122) = true) → r = true → Calls Tryz.prog 102 #[.int .u8 (n : Int), .bool f] w fun e w' => e = .returned (.bool r) ∧ w' = w := by
    intro r ⟨d1, d2⟩ hr
    subst hr
    go_enter Tryz.func102, Tryz.ntmps102
    go_wp2_with fail
    go_ret
    exact ⟨rfl, rfl⟩
  by_cases hb : 97 ≤ n ∧ n ≤ 122
  · exact fin _ ⟨by simp; omega, by simp; omega⟩ (by simp [hb.1, hb.2])
  · clear fin
    have eb : (decide (97 ≤ n) && decide (n ≤ 122)) = false := by
      rw [← Bool.not_eq_true, Bool.and_eq_true, decide_eq_true_iff, decide_eq_true_iff]; exact hb
    rw [eb, Bool.false_or]
    have tail : ∀ r : Bool, (decide ((97 : Int) ≤ (n : Int)) = false ∨ (decide ((97 : Int) ≤ (n : Int)) = true ∧ decide ((n : Int) ≤ 122) = false)) →
        (f = true ∧ r = false ∨ f = false ∧ (((n : Int) == 95) = true ∧ r = true ∨ ((n : Int) == 95) = false ∧ (decide ((48 : Int) ≤ (n : Int)) = false ∧ r = false ∨ decide ((48 : Int) ≤ (n : Int)) = true ∧ decide ((n : Int) ≤ 57) = r))) →
        Calls Tryz.prog 102 #[.int .u8 (n : Int), .bool f] w fun e w' => e = .returned (.bool r) ∧ w' = w := by
      intro r h1 h2
      rcases h1 with d1 | ⟨d1, d2⟩ <;> rcases h2 with ⟨rfl, rfl⟩ | ⟨rfl, ⟨d3, rfl⟩ | ⟨d3, ⟨d4, rfl⟩ | ⟨d4, d5⟩⟩⟩
      all_goals
        go_enter Tryz.func102, Tryz.ntmps102
        go_wp2_with fail
        go_ret
        first | exact ⟨rfl, rfl⟩ | exact ⟨by rw [← d5]; rfl, rfl⟩
    refine tail _ ?_ ?_
    · by_cases h1 : 97 ≤ n
      · exact .inr ⟨by simp; omega, by simp; omega⟩
      · exact .inl (by simp; omega)
    · cases f with
      | true => exact .inl ⟨rfl, rfl⟩
      | false =>
        refine .inr ⟨rfl, ?_⟩
        by_cases h0 : n = 95
        · exact .inl ⟨int_beq_yes (m := 95) h0, by simp [h0]⟩
        · refine .inr ⟨int_beq_no (m := 95) h0, ?_⟩
          by_cases h1 : 48 ≤ n
          · refine .inr ⟨by simp; omega, ?_⟩
            simp [h0, h1]
            omega
          · exact .inl ⟨by simp; omega, by simp [h0, h1]⟩
set_option maxHeartbeats 800000 in
theorem refCheck_any (s : ByteArray) (w : World) (hs : s.size ≤ maxLen) : Calls Tryz.prog 97 #[.string s] w fun e w' => e = .returned (.int .i64 (chk s : Nat)) ∧ w' = w := by
  unfold maxLen at hs
  by_cases hz : 0 < s.size
  · generalize hr : chk s = r
    have HR := Lib.hid hr
    clear hr
    have hne := toList_ne s hz
    have hne' : s.toList.isEmpty = false := by simp [hne]
    go_enter Tryz.func97, Tryz.ntmps97
    go_wp2_with fail
    go_loop [3] (fun i => ∃ k : Nat, k ≤ s.size ∧ i = .int .i64 k ∧ speltTo s k) (fun i => s.size - (intOf i).toNat)
    case atStart => exact ⟨0, Nat.zero_le _, rfl, fun j hj => by omega⟩
    case round =>
      obtain ⟨k, hk, rfl, hno⟩ := hrel
      have HN := Lib.hid hno
      clear hno
      by_cases hlt : k < s.size
      · have HE := Lib.hid (bt_eq s k hlt)
        obtain ⟨f, hf, hf2⟩ : ∃ f, ((k : Int) == 0) = f ∧ decide (k = 0) = f := by
          by_cases h0 : k = 0
          · exact ⟨true, int_beq_yes (m := 0) h0, by simpa using h0⟩
          · exact ⟨false, int_beq_no (m := 0) h0, by simpa using h0⟩
        have HF := Lib.hid hf2
        clear hf2
        go_wp2_with fail
        refine (letter_any s[k] f _).mono ?_
        rintro e w1 ⟨rfl, rfl⟩
        cases hl : letter s[k] f with
        | true =>
          have HT := Lib.hid (speltTo_succ HN.out (by rw [← HE.out, HF.out]; exact hl))
          clear hl
          go_wp2_with fail
          go_round
          case rel => exact ⟨k + 1, by omega, by go_num, HT.out⟩
          case measure => simp [intOf]; omega
        | false =>
          have HS := spelt_hit hlt (by rw [← HE.out, HF.out]; exact hl)
          obtain rfl : r = 11 := by rw [← HR.out]; unfold chk; rw [HS]; rfl
          clear hl HS
          go_wp2_with fail
          go_ret
          exact ⟨rfl, rfl⟩
      · have hk2 : k = s.size := by omega
        subst hk2
        have HF := spelt_end HN.out
        rw [show decide (0 < s.size) = true by simpa using hz] at HF
        have H2 := HR.out
        unfold chk at H2
        rw [if_pos HF] at H2
        clear HF
        by_cases h : 32 < s.size
        · rw [if_pos h] at H2
          subst H2
          go_wp2_with fail
          go_ret
          exact ⟨rfl, rfl⟩
        · rw [if_neg h] at H2
          subst H2
          go_wp2_with fail
          go_ret
          exact ⟨rfl, rfl⟩
  · have h0 := ba_empty s (by omega)
    subst h0
    rw [show chk ⟨#[]⟩ = 11 from rfl]
    go_enter Tryz.func97, Tryz.ntmps97
    go_wp2_with fail
    go_ret
    exact ⟨rfl, rfl⟩
end Go.Proofs.YtpcldpnaljheoaaGreatDoor
