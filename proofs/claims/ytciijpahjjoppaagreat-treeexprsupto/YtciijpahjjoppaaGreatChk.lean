/-
  Names: mayBegin, mayGoOn, speltAsName, Check, and the reference's Letter and Check, walked.
-/
import Derived.Test.YtciijpahjjoppaaGreatLst
namespace Go.Proofs.YtciijpahjjoppaaGreat
open Go.RowKit

def bt (s : ByteArray) (k : Nat) : UInt8 := s.data.toList.getD k 0
theorem bt_eq (s : ByteArray) (k : Nat) (h : k < s.size) : s[k] = bt s k := by
  unfold bt
  rw [List.getD_eq_getElem?_getD, List.getElem?_eq_getElem (by simpa using h)]; rfl
def beg (c : UInt8) : Bool := decide (97 ≤ c.toNat) && decide (c.toNat ≤ 122)
def goOn (c : UInt8) : Bool := decide (c.toNat = 95) || (decide (48 ≤ c.toNat) && decide (c.toNat ≤ 57))
def letter (c : UInt8) (f : Bool) : Bool := beg c || (!f && goOn c)
/-- Spelt as a name. -/
def spelt (s : ByteArray) : Bool := decide (0 < s.size) && (List.range s.size).all fun j => letter (bt s j) (decide (j = 0))
theorem spelt_iff (s : ByteArray) : spelt s = true ↔ 0 < s.size ∧ ∀ j, j < s.size → letter (bt s j) (decide (j = 0)) = true := by
  unfold spelt
  rw [Bool.and_eq_true, decide_eq_true_iff, List.all_eq_true]
  simp only [List.mem_range]
def chk (s : ByteArray) : Nat := if spelt s then (if 32 < s.size then 3 else 0) else 11

theorem toNat_lt (c : UInt8) : c.toNat < 256 := c.toNat_lt
set_option maxHeartbeats 400000 in
theorem mayBegin_any (c : UInt8) (w : World) : Calls Tryz.prog 145 #[.int .u8 (c.toNat : Int)] w fun e w' => e = .returned (.bool (beg c)) ∧ w' = w := by
  unfold beg
  have hc := toNat_lt c
  generalize c.toNat = n at *
  by_cases h1 : 97 ≤ n
  · by_cases h2 : n ≤ 122
    · have d1 : decide ((97 : Int) ≤ (n : Int)) = true := by simp; omega
      have d2 : decide ((n : Int) ≤ (122 : Int)) = true := by simp; omega
      rw [show (decide (97 ≤ n) && decide (n ≤ 122)) = true by simp [h1, h2]]
      go_enter Tryz.func145, Tryz.ntmps145
      go_wp2_with fail
      go_ret
      exact ⟨rfl, rfl⟩
    · have d1 : decide ((97 : Int) ≤ (n : Int)) = true := by simp; omega
      have d2 : decide ((n : Int) ≤ (122 : Int)) = false := by simp; omega
      rw [show (decide (97 ≤ n) && decide (n ≤ 122)) = false by simp [h1, h2]]
      go_enter Tryz.func145, Tryz.ntmps145
      go_wp2_with fail
      go_ret
      exact ⟨rfl, rfl⟩
  · have d1 : decide ((97 : Int) ≤ (n : Int)) = false := by simp; omega
    rw [show (decide (97 ≤ n) && decide (n ≤ 122)) = false by simp [h1]]
    go_enter Tryz.func145, Tryz.ntmps145
    go_wp2_with fail
    go_ret
    exact ⟨rfl, rfl⟩
theorem int_beq_yes {n : Nat} {m : Nat} (h : n = m) : ((n : Int) == (m : Int)) = true := by simp; omega
theorem int_beq_no {n : Nat} {m : Nat} (h : n ≠ m) : ((n : Int) == (m : Int)) = false := by simp; omega
set_option maxHeartbeats 400000 in
theorem mayGoOn_any (c : UInt8) (w : World) : Calls Tryz.prog 146 #[.int .u8 (c.toNat : Int)] w fun e w' => e = .returned (.bool (goOn c)) ∧ w' = w := by
  unfold goOn
  have hc := toNat_lt c
  generalize c.toNat = n at *
  by_cases h0 : n = 95
  · subst h0
    rw [show (decide (95 = 95) || (decide (48 ≤ 95) && decide (95 ≤ 57))) = true by decide]
    go_enter Tryz.func146, Tryz.ntmps146
    go_wp2_with fail
    go_ret
    exact ⟨rfl, rfl⟩
  · have d0 : ((n : Int) == (95 : Int)) = false := int_beq_no (m := 95) h0
    by_cases h1 : 48 ≤ n
    · have d1 : decide ((48 : Int) ≤ (n : Int)) = true := by simp; omega
      by_cases h2 : n ≤ 57
      · have d2 : decide ((n : Int) ≤ (57 : Int)) = true := by simp; omega
        rw [show (decide (n = 95) || (decide (48 ≤ n) && decide (n ≤ 57))) = true by simp [h1, h2]]
        clear h0
        go_enter Tryz.func146, Tryz.ntmps146
        go_wp2_with fail
        go_ret
        exact ⟨rfl, rfl⟩
      · have d2 : decide ((n : Int) ≤ (57 : Int)) = false := by simp; omega
        rw [show (decide (n = 95) || (decide (48 ≤ n) && decide (n ≤ 57))) = false by simp [h0, h2]]
        clear h0
        go_enter Tryz.func146, Tryz.ntmps146
        go_wp2_with fail
        go_ret
        exact ⟨rfl, rfl⟩
    · have d1 : decide ((48 : Int) ≤ (n : Int)) = false := by simp; omega
      rw [show (decide (n = 95) || (decide (48 ≤ n) && decide (n ≤ 57))) = false by simp [h0, h1]]
      clear h0
      go_enter Tryz.func146, Tryz.ntmps146
      go_wp2_with fail
      go_ret
      exact ⟨rfl, rfl⟩
set_option maxHeartbeats 800000 in
theorem letter_any (c : UInt8) (f : Bool) (w : World) : Calls Tryz.prog 116 #[.int .u8 (c.toNat : Int), .bool f] w fun e w' => e = .returned (.bool (letter c f)) ∧ w' = w := by
  unfold letter beg goOn
  have hc := toNat_lt c
  generalize c.toNat = n at *
  have fin : ∀ r : Bool, (decide ((97 : Int) ≤ (n : Int)) = true ∧ decide ((n : Int) ≤ 122) = true) → r = true → Calls Tryz.prog 116 #[.int .u8 (n : Int), .bool f] w fun e w' => e = .returned (.bool r) ∧ w' = w := by
    intro r ⟨d1, d2⟩ hr
    subst hr
    go_enter Tryz.func116, Tryz.ntmps116
    go_wp2_with fail
    go_ret
    exact ⟨rfl, rfl⟩
  by_cases hb : 97 ≤ n ∧ n ≤ 122
  · exact fin _ ⟨by simp; omega, by simp; omega⟩ (by simp [hb.1, hb.2])
  · clear fin
    have eb : (decide (97 ≤ n) && decide (n ≤ 122)) = false := by
      rw [← Bool.not_eq_true, Bool.and_eq_true, decide_eq_true_iff, decide_eq_true_iff]; exact hb
    rw [eb, Bool.false_or]
    have tail : ∀ r : Bool, (decide ((97 : Int) ≤ (n : Int)) = false ∨ (decide ((97 : Int) ≤ (n : Int)) = true ∧ decide ((n : Int) ≤ 122) = false)) →
        (f = true ∧ r = false ∨ f = false ∧ (((n : Int) == 95) = true ∧ r = true ∨ ((n : Int) == 95) = false ∧ (decide ((48 : Int) ≤ (n : Int)) = false ∧ r = false ∨ decide ((48 : Int) ≤ (n : Int)) = true ∧ decide ((n : Int) ≤ 57) = r))) →
        Calls Tryz.prog 116 #[.int .u8 (n : Int), .bool f] w fun e w' => e = .returned (.bool r) ∧ w' = w := by
      intro r h1 h2
      rcases h1 with d1 | ⟨d1, d2⟩ <;> rcases h2 with ⟨rfl, rfl⟩ | ⟨rfl, ⟨d3, rfl⟩ | ⟨d3, ⟨d4, rfl⟩ | ⟨d4, d5⟩⟩⟩
      all_goals
        go_enter Tryz.func116, Tryz.ntmps116
        go_wp2_with fail
        go_ret
        first | exact ⟨rfl, rfl⟩ | exact ⟨by rw [← d5]; rfl, rfl⟩
    refine tail _ ?_ ?_
    · by_cases h1 : 97 ≤ n
      · exact .inr ⟨by simp; omega, by simp; omega⟩
      · exact .inl (by simp; omega)
    · cases f with
      | true => exact .inl ⟨rfl, rfl⟩
      | false =>
        refine .inr ⟨rfl, ?_⟩
        by_cases h0 : n = 95
        · exact .inl ⟨int_beq_yes (m := 95) h0, by simp [h0]⟩
        · refine .inr ⟨int_beq_no (m := 95) h0, ?_⟩
          by_cases h1 : 48 ≤ n
          · refine .inr ⟨by simp; omega, ?_⟩
            simp [h0, h1]
            omega
          · exact .inl ⟨by simp; omega, by simp [h0, h1]⟩

theorem ba_empty (s : ByteArray) (h : s.size = 0) : s = ⟨#[]⟩ := by
  cases s with
  | mk d => congr; exact Array.eq_empty_of_size_eq_zero h
theorem toList_ne (s : ByteArray) (h : 0 < s.size) : ¬ s.toList = [] := by
  rw [ByteArray.toList_eq]
  intro e
  have : s.data.toList.length = s.size := by simp
  rw [e] at this
  simp at this
  omega
/-- The first k bytes are as a name's. -/
def speltTo (s : ByteArray) (k : Nat) : Prop := ∀ j, j < k → letter (bt s j) (decide (j = 0)) = true
theorem speltTo_succ {s : ByteArray} {k : Nat} (h : speltTo s k) (g : letter (bt s k) (decide (k = 0)) = true) : speltTo s (k + 1) := fun j hj => by
  by_cases e : j = k
  · rw [e]; exact g
  · exact h j (by omega)
theorem spelt_hit {s : ByteArray} {k : Nat} (hk : k < s.size) (g : letter (bt s k) (decide (k = 0)) = false) : spelt s = false := by
  rw [← Bool.not_eq_true, spelt_iff]
  intro h
  rw [h.2 k hk] at g
  cases g
theorem spelt_end {s : ByteArray} (h : speltTo s s.size) : spelt s = decide (0 < s.size) := by
  cases hd : decide (0 < s.size) with
  | true => rw [spelt_iff]; exact ⟨by simpa using hd, h⟩
  | false =>
    rw [← Bool.not_eq_true, spelt_iff]
    intro g
    have : ¬ 0 < s.size := by simpa using hd
    exact this g.1

set_option maxHeartbeats 800000 in
theorem spelt_any (s : ByteArray) (w : World) (hs : s.size ≤ maxLen) : Calls Tryz.prog 132 #[.string s] w fun e w' => e = .returned (.bool (spelt s)) ∧ w' = w := by
  unfold maxLen at hs
  generalize hr : spelt s = r
  have HR := Lib.hid hr
  clear hr
  go_enter Tryz.func132, Tryz.ntmps132
  go_wp2_with fail
  go_loop [6] (fun i => ∃ k : Nat, k ≤ s.size ∧ i = .int .i64 k ∧ speltTo s k) (fun i => s.size - (intOf i).toNat)
  case atStart => exact ⟨0, Nat.zero_le _, rfl, fun j hj => by omega⟩
  case round =>
    obtain ⟨k, hk, rfl, hno⟩ := hrel
    have HN := Lib.hid hno
    clear hno
    by_cases hlt : k < s.size
    · have HE := Lib.hid (bt_eq s k hlt)
      go_wp2_with fail
      refine (mayBegin_any s[k] _).mono ?_
      rintro e w1 ⟨rfl, rfl⟩
      cases hb : beg s[k] with
      | true =>
        have HL : letter (bt s k) (decide (k = 0)) = true := by unfold letter; rw [← HE.out, hb]; rfl
        have HT := Lib.hid (speltTo_succ HN.out HL)
        clear HL hb
        go_wp2_with fail
        go_round
        case rel => exact ⟨k + 1, by omega, by go_num, HT.out⟩
        case measure => simp [intOf]; omega
      | false =>
        by_cases h0 : k = 0
        · subst h0
          have HL : letter (bt s 0) (decide (0 = 0)) = false := by unfold letter; rw [← HE.out, hb]; rfl
          have HF := spelt_hit hlt HL
          rw [HR.out] at HF
          subst HF
          clear HL hb
          go_wp2_with fail
          go_ret
          exact ⟨rfl, rfl⟩
        · have e0 : ((k : Int) == 0) = false := int_beq_no (m := 0) h0
          have L : letter (bt s k) (decide (k = 0)) = goOn s[k] := by unfold letter; rw [← HE.out, hb]; simp [h0]
          have HL := Lib.hid L
          clear L hb h0
          go_wp2_with fail
          refine (mayGoOn_any s[k] _).mono ?_
          rintro e w1 ⟨rfl, rfl⟩
          cases hg : goOn s[k] with
          | true =>
            have HT := Lib.hid (speltTo_succ HN.out (HL.out.trans hg))
            clear hg
            go_wp2_with fail
            go_round
            case rel => exact ⟨k + 1, by omega, by go_num, HT.out⟩
            case measure => simp [intOf]; omega
          | false =>
            have HF := spelt_hit hlt (HL.out.trans hg)
            rw [HR.out] at HF
            subst HF
            clear hg
            go_wp2_with fail
            go_ret
            exact ⟨rfl, rfl⟩
    · have hk2 : k = s.size := by omega
      subst hk2
      have HF := spelt_end HN.out
      rw [HR.out] at HF
      by_cases hp : 0 < s.size
      · obtain rfl : r = true := by rw [HF]; simpa using hp
        have hne := toList_ne s hp
        have hne' : (!s.toList.isEmpty) = true := by simp [hne]
        clear HF
        go_wp2_with fail
        go_ret
        exact ⟨rfl, rfl⟩
      · have h0 := ba_empty s (by omega)
        subst h0
        obtain rfl : r = false := by rw [HF]; rfl
        clear HF
        go_wp2_with fail
        go_ret
        exact ⟨rfl, rfl⟩

set_option maxHeartbeats 400000 in
theorem check_any (s : ByteArray) (w : World) (hs : s.size ≤ maxLen) : Calls Tryz.prog 101 #[.string s] w fun e w' => e = .returned (.int .i64 (chk s : Nat)) ∧ w' = w := by
  generalize hr : chk s = r
  unfold chk at hr
  have HR := Lib.hid hr
  clear hr
  go_enter Tryz.func101, Tryz.ntmps101
  go_wp2_with fail
  refine (spelt_any s _ hs).mono ?_
  unfold maxLen at hs
  rintro e w1 ⟨rfl, rfl⟩
  have H := HR.out
  cases hsp : spelt s with
  | false =>
    rw [hsp] at H
    obtain rfl : 11 = r := H
    clear hsp
    go_wp2_with fail
    go_ret
    exact ⟨rfl, rfl⟩
  | true =>
    rw [hsp, if_pos rfl] at H
    by_cases h : 32 < s.size
    · rw [if_pos h] at H
      subst H
      clear hsp
      go_wp2_with fail
      go_ret
      exact ⟨rfl, rfl⟩
    · rw [if_neg h] at H
      subst H
      clear hsp
      go_wp2_with fail
      go_ret
      exact ⟨rfl, rfl⟩

set_option maxHeartbeats 800000 in
theorem refCheck_any (s : ByteArray) (w : World) (hs : s.size ≤ maxLen) : Calls Tryz.prog 76 #[.string s] w fun e w' => e = .returned (.int .i64 (chk s : Nat)) ∧ w' = w := by
  unfold maxLen at hs
  by_cases hz : 0 < s.size
  · generalize hr : chk s = r
    have HR := Lib.hid hr
    clear hr
    have hne := toList_ne s hz
    have hne' : s.toList.isEmpty = false := by simp [hne]
    go_enter Tryz.func76, Tryz.ntmps76
    go_wp2_with fail
    go_loop [3] (fun i => ∃ k : Nat, k ≤ s.size ∧ i = .int .i64 k ∧ speltTo s k) (fun i => s.size - (intOf i).toNat)
    case atStart => exact ⟨0, Nat.zero_le _, rfl, fun j hj => by omega⟩
    case round =>
      obtain ⟨k, hk, rfl, hno⟩ := hrel
      have HN := Lib.hid hno
      clear hno
      by_cases hlt : k < s.size
      · have HE := Lib.hid (bt_eq s k hlt)
        obtain ⟨f, hf, hf2⟩ : ∃ f, ((k : Int) == 0) = f ∧ decide (k = 0) = f := by
          by_cases h0 : k = 0
          · exact ⟨true, int_beq_yes (m := 0) h0, by simpa using h0⟩
          · exact ⟨false, int_beq_no (m := 0) h0, by simpa using h0⟩
        have HF := Lib.hid hf2
        clear hf2
        go_wp2_with fail
        refine (letter_any s[k] f _).mono ?_
        rintro e w1 ⟨rfl, rfl⟩
        cases hl : letter s[k] f with
        | true =>
          have HT := Lib.hid (speltTo_succ HN.out (by rw [← HE.out, HF.out]; exact hl))
          clear hl
          go_wp2_with fail
          go_round
          case rel => exact ⟨k + 1, by omega, by go_num, HT.out⟩
          case measure => simp [intOf]; omega
        | false =>
          have HS := spelt_hit hlt (by rw [← HE.out, HF.out]; exact hl)
          obtain rfl : r = 11 := by rw [← HR.out]; unfold chk; rw [HS]; rfl
          clear hl HS
          go_wp2_with fail
          go_ret
          exact ⟨rfl, rfl⟩
      · have hk2 : k = s.size := by omega
        subst hk2
        have HF := spelt_end HN.out
        rw [show decide (0 < s.size) = true by simpa using hz] at HF
        have H2 := HR.out
        unfold chk at H2
        rw [if_pos HF] at H2
        clear HF
        by_cases h : 32 < s.size
        · rw [if_pos h] at H2
          subst H2
          go_wp2_with fail
          go_ret
          exact ⟨rfl, rfl⟩
        · rw [if_neg h] at H2
          subst H2
          go_wp2_with fail
          go_ret
          exact ⟨rfl, rfl⟩
  · have h0 := ba_empty s (by omega)
    subst h0
    rw [show chk ⟨#[]⟩ = 11 from rfl]
    go_enter Tryz.func76, Tryz.ntmps76
    go_wp2_with fail
    go_ret
    exact ⟨rfl, rfl⟩
end Go.Proofs.YtciijpahjjoppaaGreat
