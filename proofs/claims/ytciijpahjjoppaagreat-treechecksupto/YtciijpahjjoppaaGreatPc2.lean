/-
  Texts of this proof, put together.
-/
import Derived.Test.YtciijpahjjoppaaGreatPc1
import Derived.Shelf.Strings.Builder1
import Derived.Shelf.Strings.Builder2
import Derived.Shelf.Strings.OnBuilder
import Derived.Shelf.Strings.BuilderF
import Derived.Shelf.Strings.BuilderK
import Derived.Shelf.Strings.BuilderRune
import Derived.Shelf.Utf8.AppendRune
import Derived.Shelf.Strings.Search1
import Derived.Shelf.Strings.Search2
import Derived.Shelf.Strings.Cut
import Derived.Shelf.LaysM
import Derived.Shelf.Strings.Shaped
import Derived.Shelf.Strings.Prefix
import Derived.Test.YtciijpahjjoppaaGreatProg
import Derived.Lib.Bytealg
import Derived.RangeFuncNested
import Derived.RangeFuncBound
import Derived.RangeFuncCalls
import Derived.RangeFuncLeaves
import Derived.RangeFuncWrites
import Derived.RangeFuncBox
import Derived.Shelf.Abstract
import Derived.Shelf.RegionOpen
import Derived.OwnWalkIn
import Derived.TacticsInMore
import Derived.LoopNIn
import Derived.LoopIn
import Derived.Maps.OwnIn
import Derived.Maps.AppendAt
import Derived.Maps.OwnSet
import Derived.Laws.AppendOwn
section
namespace Go.Proofs.YtciijpahjjoppaaGreat
open Go.RowKit

def bt (s : ByteArray) (k : Nat) : UInt8 := s.data.toList.getD k 0
theorem bt_eq (s : ByteArray) (k : Nat) (h : k < s.size) : s[k] = bt s k := by
  unfold bt
  rw [List.getD_eq_getElem?_getD, List.getElem?_eq_getElem (by simpa using h)]; rfl
def beg (c : UInt8) : Bool := decide (97 ≤ c.toNat) && decide (c.toNat ≤ 122)
def goOn (c : UInt8) : Bool := decide (c.toNat = 95) || (decide (48 ≤ c.toNat) && decide (c.toNat ≤ 57))
def letter (c : UInt8) (f : Bool) : Bool := beg c || (!f && goOn c)
/-- Spelt as a name. -/
def spelt (s : ByteArray) : Bool := decide (0 < s.size) && (List.range s.size).all fun j => letter (bt s j) (decide (j = 0))
theorem spelt_iff (s : ByteArray) : spelt s = true ↔ 0 < s.size ∧ ∀ j, j < s.size → letter (bt s j) (decide (j = 0)) = true := by
  unfold spelt
  rw [Bool.and_eq_true, decide_eq_true_iff, List.all_eq_true]
  simp only [List.mem_range]
def chk (s : ByteArray) : Nat := if spelt s then (if 32 < s.size then 3 else 0) else 11

theorem toNat_lt (c : UInt8) : c.toNat < 256 := c.toNat_lt
set_option maxHeartbeats 400000 in
theorem mayBegin_any (c : UInt8) (w : World) : Calls Tryz.prog 145 #[.int .u8 (c.toNat : Int)] w fun e w' => e = .returned (.bool (beg c)) ∧ w' = w := by
  unfold beg
  have hc := toNat_lt c
  generalize c.toNat = n at *
  by_cases h1 : 97 ≤ n
  · by_cases h2 : n ≤ 122
    · have d1 : decide ((97 : Int) ≤ (n : Int)) = true := by simp; omega
      have d2 : decide ((n : Int) ≤ (122 : Int)) = true := by simp; omega
      rw [show (decide (97 ≤ n) && decide (n ≤ 122)) = true by simp [h1, h2]]
      go_enter Tryz.func145, Tryz.ntmps145
      go_wp2_with fail
      go_ret
      exact ⟨rfl, rfl⟩
    · have d1 : decide ((97 : Int) ≤ (n : Int)) = true := by simp; omega
      have d2 : decide ((n : Int) ≤ (122 : Int)) = false := by simp; omega
      rw [show (decide (97 ≤ n) && decide (n ≤ 122)) = false by simp [h1, h2]]
      go_enter Tryz.func145, Tryz.ntmps145
      go_wp2_with fail
      go_ret
      exact ⟨rfl, rfl⟩
  · have d1 : decide ((97 : Int) ≤ (n : Int)) = false := by simp; omega
    rw [show (decide (97 ≤ n) && decide (n ≤ 122)) = false by simp [h1]]
    go_enter Tryz.func145, Tryz.ntmps145
    go_wp2_with fail
    go_ret
    exact ⟨rfl, rfl⟩
theorem int_beq_yes {n : Nat} {m : Nat} (h : n = m) : ((n : Int) == (m : Int)) = true := by simp; omega
theorem int_beq_no {n : Nat} {m : Nat} (h : n ≠ m) : ((n : Int) == (m : Int)) = false := by simp; omega
set_option maxHeartbeats 400000 in
theorem mayGoOn_any (c : UInt8) (w : World) : Calls Tryz.prog 146 #[.int .u8 (c.toNat : Int)] w fun e w' => e = .returned (.bool (goOn c)) ∧ w' = w := by
  unfold goOn
  have hc := toNat_lt c
  generalize c.toNat = n at *
  by_cases h0 : n = 95
  · subst h0
    rw [show (decide (95 = 95) || (decide (48 ≤ 95) && decide (95 ≤ 57))) = true by decide]
    go_enter Tryz.func146, Tryz.ntmps146
    go_wp2_with fail
    go_ret
    exact ⟨rfl, rfl⟩
  · have d0 : ((n : Int) == (95 : Int)) = false := int_beq_no (m := 95) h0
    by_cases h1 : 48 ≤ n
    · have d1 : decide ((48 : Int) ≤ (n : Int)) = true := by simp; omega
      by_cases h2 : n ≤ 57
      · have d2 : decide ((n : Int) ≤ (57 : Int)) = true := by simp; omega
        rw [show (decide (n = 95) || (decide (48 ≤ n) && decide (n ≤ 57))) = true by simp [h1, h2]]
        clear h0
        go_enter Tryz.func146, Tryz.ntmps146
        go_wp2_with fail
        go_ret
        exact ⟨rfl, rfl⟩
      · have d2 : decide ((n : Int) ≤ (57 : Int)) = false := by simp; omega
        rw [show (decide (n = 95) || (decide (48 ≤ n) && decide (n ≤ 57))) = false by simp [h0, h2]]
        clear h0
        go_enter Tryz.func146, Tryz.ntmps146
        go_wp2_with fail
        go_ret
        exact ⟨rfl, rfl⟩
    · have d1 : decide ((48 : Int) ≤ (n : Int)) = false := by simp; omega
      rw [show (decide (n = 95) || (decide (48 ≤ n) && decide (n ≤ 57))) = false by simp [h0, h1]]
      clear h0
      go_enter Tryz.func146, Tryz.ntmps146
      go_wp2_with fail
      go_ret
      exact ⟨rfl, rfl⟩
set_option maxHeartbeats 800000 in
theorem letter_any (c : UInt8) (f : Bool) (w : World) : Calls Tryz.prog 116 #[.int .u8 (c.toNat : Int), .bool f] w fun e w' => e = .returned (.bool (letter c f)) ∧ w' = w := by
  unfold letter beg goOn
  have hc := toNat_lt c
  generalize c.toNat = n at *
  have fin : ∀ r : Bool, (decide ((97 : Int) ≤ (n : Int)) = true ∧ decide ((n : Int) ≤ 122) = true) → r = true → Calls Tryz.prog 116 #[.int .u8 (n : Int), .bool f] w fun e w' => e = .returned (.bool r) ∧ w' = w := by
    intro r ⟨d1, d2⟩ hr
    subst hr
    go_enter Tryz.func116, Tryz.ntmps116
    go_wp2_with fail
    go_ret
    exact ⟨rfl, rfl⟩
  by_cases hb : 97 ≤ n ∧ n ≤ 122
  · exact fin _ ⟨by simp; omega, by simp; omega⟩ (by simp [hb.1, hb.2])
  · clear fin
    have eb : (decide (97 ≤ n) && decide (n ≤ 122)) = false := by
      rw [← Bool.not_eq_true, Bool.and_eq_true, decide_eq_true_iff, decide_eq_true_iff]; exact hb
    rw [eb, Bool.false_or]
    have tail : ∀ r : Bool, (decide ((97 : Int) ≤ (n : Int)) = false ∨ (decide ((97 : Int) ≤ (n : Int)) = true ∧ decide ((n : Int) ≤ 122) = false)) →
        (f = true ∧ r = false ∨ f = false ∧ (((n : Int) == 95) = true ∧ r = true ∨ ((n : Int) == 95) = false ∧ (decide ((48 : Int) ≤ (n : Int)) = false ∧ r = false ∨ decide ((48 : Int) ≤ (n : Int)) = true ∧ decide ((n : Int) ≤ 57) = r))) →
        Calls Tryz.prog 116 #[.int .u8 (n : Int), .bool f] w fun e w' => e = .returned (.bool r) ∧ w' = w := by
      intro r h1 h2
      rcases h1 with d1 | ⟨d1, d2⟩ <;> rcases h2 with ⟨rfl, rfl⟩ | ⟨rfl, ⟨d3, rfl⟩ | ⟨d3, ⟨d4, rfl⟩ | ⟨d4, d5⟩⟩⟩
      all_goals
        go_enter Tryz.func116, Tryz.ntmps116
        go_wp2_with fail
        go_ret
        first | exact ⟨rfl, rfl⟩ | exact ⟨by rw [← d5]; rfl, rfl⟩
    refine tail _ ?_ ?_
    · by_cases h1 : 97 ≤ n
      · exact .inr ⟨by simp; omega, by simp; omega⟩
      · exact .inl (by simp; omega)
    · cases f with
      | true => exact .inl ⟨rfl, rfl⟩
      | false =>
        refine .inr ⟨rfl, ?_⟩
        by_cases h0 : n = 95
        · exact .inl ⟨int_beq_yes (m := 95) h0, by simp [h0]⟩
        · refine .inr ⟨int_beq_no (m := 95) h0, ?_⟩
          by_cases h1 : 48 ≤ n
          · refine .inr ⟨by simp; omega, ?_⟩
            simp [h0, h1]
            omega
          · exact .inl ⟨by simp; omega, by simp [h0, h1]⟩

theorem ba_empty (s : ByteArray) (h : s.size = 0) : s = ⟨#[]⟩ := by
  cases s with
  | mk d => congr; exact Array.eq_empty_of_size_eq_zero h
theorem toList_ne (s : ByteArray) (h : 0 < s.size) : ¬ s.toList = [] := by
  rw [ByteArray.toList_eq]
  intro e
  have : s.data.toList.length = s.size := by simp
  rw [e] at this
  simp at this
  omega
/-- The first k bytes are as a name's. -/
def speltTo (s : ByteArray) (k : Nat) : Prop := ∀ j, j < k → letter (bt s j) (decide (j = 0)) = true
theorem speltTo_succ {s : ByteArray} {k : Nat} (h : speltTo s k) (g : letter (bt s k) (decide (k = 0)) = true) : speltTo s (k + 1) := fun j hj => by
  by_cases e : j = k
  · rw [e]; exact g
  · exact h j (by omega)
theorem spelt_hit {s : ByteArray} {k : Nat} (hk : k < s.size) (g : letter (bt s k) (decide (k = 0)) = false) : spelt s = false := by
  rw [← Bool.not_eq_true, spelt_iff]
  intro h
  rw [h.2 k hk] at g
  cases g
theorem spelt_end {s : ByteArray} (h : speltTo s s.size) : spelt s = decide (0 < s.size) := by
  cases hd : decide (0 < s.size) with
  | true => rw [spelt_iff]; exact ⟨by simpa using hd, h⟩
  | false =>
    rw [← Bool.not_eq_true, spelt_iff]
    intro g
    have : ¬ 0 < s.size := by simpa using hd
    exact this g.1

set_option maxHeartbeats 800000 in
theorem spelt_any (s : ByteArray) (w : World) (hs : s.size ≤ maxLen) : Calls Tryz.prog 132 #[.string s] w fun e w' => e = .returned (.bool (spelt s)) ∧ w' = w := by
  unfold maxLen at hs
  generalize hr : spelt s = r
  have HR := Lib.hid hr
  clear hr
  go_enter Tryz.func132, Tryz.ntmps132
  go_wp2_with fail
  go_loop [6] (fun i => ∃ k : Nat, k ≤ s.size ∧ i = .int .i64 k ∧ speltTo s k) (fun i => s.size - (intOf i).toNat)
  case atStart => exact ⟨0, Nat.zero_le _, rfl, fun j hj => by omega⟩
  case round =>
    obtain ⟨k, hk, rfl, hno⟩ := hrel
    have HN := Lib.hid hno
    clear hno
    by_cases hlt : k < s.size
    · have HE := Lib.hid (bt_eq s k hlt)
      go_wp2_with fail
      refine (mayBegin_any s[k] _).mono ?_
      rintro e w1 ⟨rfl, rfl⟩
      cases hb : beg s[k] with
      | true =>
        have HL : letter (bt s k) (decide (k = 0)) = true := by unfold letter; rw [← HE.out, hb]; rfl
        have HT := Lib.hid (speltTo_succ HN.out HL)
        clear HL hb
        go_wp2_with fail
        go_round
        case rel => exact ⟨k + 1, by omega, by go_num, HT.out⟩
        case measure => simp [intOf]; omega
      | false =>
        by_cases h0 : k = 0
        · subst h0
          have HL : letter (bt s 0) (decide (0 = 0)) = false := by unfold letter; rw [← HE.out, hb]; rfl
          have HF := spelt_hit hlt HL
          rw [HR.out] at HF
          subst HF
          clear HL hb
          go_wp2_with fail
          go_ret
          exact ⟨rfl, rfl⟩
        · have e0 : ((k : Int) == 0) = false := int_beq_no (m := 0) h0
          have L : letter (bt s k) (decide (k = 0)) = goOn s[k] := by unfold letter; rw [← HE.out, hb]; simp [h0]
          have HL := Lib.hid L
          clear L hb h0
          go_wp2_with fail
          refine (mayGoOn_any s[k] _).mono ?_
          rintro e w1 ⟨rfl, rfl⟩
          cases hg : goOn s[k] with
          | true =>
            have HT := Lib.hid (speltTo_succ HN.out (HL.out.trans hg))
            clear hg
            go_wp2_with fail
            go_round
            case rel => exact ⟨k + 1, by omega, by go_num, HT.out⟩
            case measure => simp [intOf]; omega
          | false =>
            have HF := spelt_hit hlt (HL.out.trans hg)
            rw [HR.out] at HF
            subst HF
            clear hg
            go_wp2_with fail
            go_ret
            exact ⟨rfl, rfl⟩
    · have hk2 : k = s.size := by omega
      subst hk2
      have HF := spelt_end HN.out
      rw [HR.out] at HF
      by_cases hp : 0 < s.size
      · obtain rfl : r = true := by rw [HF]; simpa using hp
        have hne := toList_ne s hp
        have hne' : (!s.toList.isEmpty) = true := by simp [hne]
        clear HF
        go_wp2_with fail
        go_ret
        exact ⟨rfl, rfl⟩
      · have h0 := ba_empty s (by omega)
        subst h0
        obtain rfl : r = false := by rw [HF]; rfl
        clear HF
        go_wp2_with fail
        go_ret
        exact ⟨rfl, rfl⟩

set_option maxHeartbeats 400000 in
theorem check_any (s : ByteArray) (w : World) (hs : s.size ≤ maxLen) : Calls Tryz.prog 101 #[.string s] w fun e w' => e = .returned (.int .i64 (chk s : Nat)) ∧ w' = w := by
  generalize hr : chk s = r
  unfold chk at hr
  have HR := Lib.hid hr
  clear hr
  go_enter Tryz.func101, Tryz.ntmps101
  go_wp2_with fail
  refine (spelt_any s _ hs).mono ?_
  unfold maxLen at hs
  rintro e w1 ⟨rfl, rfl⟩
  have H := HR.out
  cases hsp : spelt s with
  | false =>
    rw [hsp] at H
    obtain rfl : 11 = r := H
    clear hsp
    go_wp2_with fail
    go_ret
    exact ⟨rfl, rfl⟩
  | true =>
    rw [hsp, if_pos rfl] at H
    by_cases h : 32 < s.size
    · rw [if_pos h] at H
      subst H
      clear hsp
      go_wp2_with fail
      go_ret
      exact ⟨rfl, rfl⟩
    · rw [if_neg h] at H
      subst H
      clear hsp
      go_wp2_with fail
      go_ret
      exact ⟨rfl, rfl⟩

set_option maxHeartbeats 800000 in
theorem refCheck_any (s : ByteArray) (w : World) (hs : s.size ≤ maxLen) : Calls Tryz.prog 76 #[.string s] w fun e w' => e = .returned (.int .i64 (chk s : Nat)) ∧ w' = w := by
  unfold maxLen at hs
  by_cases hz : 0 < s.size
  · generalize hr : chk s = r
    have HR := Lib.hid hr
    clear hr
    have hne := toList_ne s hz
    have hne' : s.toList.isEmpty = false := by simp [hne]
    go_enter Tryz.func76, Tryz.ntmps76
    go_wp2_with fail
    go_loop [3] (fun i => ∃ k : Nat, k ≤ s.size ∧ i = .int .i64 k ∧ speltTo s k) (fun i => s.size - (intOf i).toNat)
    case atStart => exact ⟨0, Nat.zero_le _, rfl, fun j hj => by omega⟩
    case round =>
      obtain ⟨k, hk, rfl, hno⟩ := hrel
      have HN := Lib.hid hno
      clear hno
      by_cases hlt : k < s.size
      · have HE := Lib.hid (bt_eq s k hlt)
        obtain ⟨f, hf, hf2⟩ : ∃ f, ((k : Int) == 0) = f ∧ decide (k = 0) = f := by
          by_cases h0 : k = 0
          · exact ⟨true, int_beq_yes (m := 0) h0, by simpa using h0⟩
          · exact ⟨false, int_beq_no (m := 0) h0, by simpa using h0⟩
        have HF := Lib.hid hf2
        clear hf2
        go_wp2_with fail
        refine (letter_any s[k] f _).mono ?_
        rintro e w1 ⟨rfl, rfl⟩
        cases hl : letter s[k] f with
        | true =>
          have HT := Lib.hid (speltTo_succ HN.out (by rw [← HE.out, HF.out]; exact hl))
          clear hl
          go_wp2_with fail
          go_round
          case rel => exact ⟨k + 1, by omega, by go_num, HT.out⟩
          case measure => simp [intOf]; omega
        | false =>
          have HS := spelt_hit hlt (by rw [← HE.out, HF.out]; exact hl)
          obtain rfl : r = 11 := by rw [← HR.out]; unfold chk; rw [HS]; rfl
          clear hl HS
          go_wp2_with fail
          go_ret
          exact ⟨rfl, rfl⟩
      · have hk2 : k = s.size := by omega
        subst hk2
        have HF := spelt_end HN.out
        rw [show decide (0 < s.size) = true by simpa using hz] at HF
        have H2 := HR.out
        unfold chk at H2
        rw [if_pos HF] at H2
        clear HF
        by_cases h : 32 < s.size
        · rw [if_pos h] at H2
          subst H2
          go_wp2_with fail
          go_ret
          exact ⟨rfl, rfl⟩
        · rw [if_neg h] at H2
          subst H2
          go_wp2_with fail
          go_ret
          exact ⟨rfl, rfl⟩
  · have h0 := ba_empty s (by omega)
    subst h0
    rw [show chk ⟨#[]⟩ = 11 from rfl]
    go_enter Tryz.func76, Tryz.ntmps76
    go_wp2_with fail
    go_ret
    exact ⟨rfl, rfl⟩
end Go.Proofs.YtciijpahjjoppaaGreat
end
section
namespace Go.Proofs
open Go.Shelf
def Tryz.lays169_ren : Go.Shelf.Ren := ⟨fun | 169 => 144 | n => n, fun | 70 => 183 | 9 => 9 | 0 => 0 | 72 => 186 | 37 => 184 | 127 => 201 | 3 => 3 | 5 => 5 | n => n, fun | n => n⟩
theorem Tryz.lays169 : Go.Proofs.Lays.n169 Tryz.prog Tryz.lays169_ren := {
  mixed := by kernel_rfl
  f169 := Tryz.func144.trans (congrArg some (by kernel_rfl))
  t0 := Tryz.underlying0
  a0 := Tryz.isAgg0
  z0 := Tryz.sizeOf0
  v0 := Tryz.zeroValue0
  t3 := Tryz.underlying3
  a3 := Tryz.isAgg3
  z3 := Tryz.sizeOf3
  v3 := Tryz.zeroValue3
  t9 := Tryz.underlying9
  a9 := Tryz.isAgg9
  z9 := Tryz.sizeOf9
  v9 := Tryz.zeroValue9
  t37 := Tryz.underlying184
  a37 := Tryz.isAgg184
  z37 := Tryz.sizeOf184
  v37 := Tryz.zeroValue184
  t70 := Tryz.underlying183
  a70 := Tryz.isAgg183
  z70 := Tryz.sizeOf183
  v70 := Tryz.zeroValue183
  t72 := Tryz.underlying186
  a72 := Tryz.isAgg186
  z72 := Tryz.sizeOf186
  v72 := Tryz.zeroValue186
  t127 := Tryz.underlying201
  a127 := Tryz.isAgg201
  z127 := Tryz.sizeOf201
  v127 := Tryz.zeroValue201 }
theorem Tryz.Builder_Extra_169 : Builder.Extra Tryz.prog Tryz.lays169_ren := {
  sizeBuilder := by kernel_rfl
  liesBuilder := by kernel_rfl
  t5 := Tryz.underlying5
  a5 := Tryz.isAgg5
  z5 := Tryz.sizeOf5
  v5 := Tryz.zeroValue5
  infoByte := by kernel_rfl
  cellsByte := by kernel_rfl
  sizeByte := by kernel_rfl
  neB5 := by decide }
open Go.RowKit in
theorem Tryz.Builder_String (B b : Nat) (l : List UInt8) (w : World) (h : Lib.IsBuilder 186 5 B b (Lib.byteCells l) w) (h0 : l ≠ []) :
    Calls Tryz.prog 144 #[.pointer (some ⟨b, 0, none⟩)] w fun e w' => e = .returned (.string ⟨l.toArray⟩) ∧ Below B w w' := Any.Builder_String Tryz.lays169 Tryz.Builder_Extra_169 B b l w h h0
open Go.RowKit in
theorem Tryz.Builder_String_any (B b : Nat) (l : List UInt8) (w : World) (h : Lib.IsBuilder 186 5 B b (Lib.byteCells l) w) (hBw : B ≤ w.heap.size) :
    Calls Tryz.prog 144 #[.pointer (some ⟨b, 0, none⟩)] w fun e w' => e = .returned (.string ⟨l.toArray⟩) ∧ Below B w w' := Any.Builder_String_any Tryz.lays169 Tryz.Builder_Extra_169 B b l w h hBw
def Tryz.lays156_ren : Go.Shelf.Ren := ⟨fun | 156 => 122 | 165 => 142 | 166 => 143 | 169 => 144 | 240 => 155 | 241 => 156 | 276 => 161 | 277 => 162 | n => n, fun | 31 => 29 | 9 => 9 | 3 => 3 | 4 => 4 | 0 => 0 | 20 => 20 | 72 => 186 | 76 => 190 | 70 => 183 | 37 => 184 | 75 => 189 | 127 => 201 | 164 => 205 | 5 => 5 | 80 => 192 | n => n, fun | n => n⟩
theorem Tryz.lays156 : Go.Proofs.Lays.n156 Tryz.prog Tryz.lays156_ren := {
  mixed := by kernel_rfl
  f156 := Tryz.func122.trans (congrArg some (by kernel_rfl))
  f165 := Tryz.func142.trans (congrArg some (by kernel_rfl))
  f166 := Tryz.func143.trans (congrArg some (by kernel_rfl))
  f169 := Tryz.func144.trans (congrArg some (by kernel_rfl))
  f240 := Tryz.func155.trans (congrArg some (by kernel_rfl))
  f241 := Tryz.func156.trans (congrArg some (by kernel_rfl))
  f276 := Tryz.func161.trans (congrArg some (by kernel_rfl))
  f277 := Tryz.func162.trans (congrArg some (by kernel_rfl))
  t0 := Tryz.underlying0
  a0 := Tryz.isAgg0
  z0 := Tryz.sizeOf0
  v0 := Tryz.zeroValue0
  t3 := Tryz.underlying3
  a3 := Tryz.isAgg3
  z3 := Tryz.sizeOf3
  v3 := Tryz.zeroValue3
  t4 := Tryz.underlying4
  a4 := Tryz.isAgg4
  z4 := Tryz.sizeOf4
  v4 := Tryz.zeroValue4
  t9 := Tryz.underlying9
  a9 := Tryz.isAgg9
  z9 := Tryz.sizeOf9
  v9 := Tryz.zeroValue9
  t20 := Tryz.underlying20
  a20 := Tryz.isAgg20
  z20 := Tryz.sizeOf20
  v20 := Tryz.zeroValue20
  t31 := Tryz.underlying29
  a31 := Tryz.isAgg29
  z31 := Tryz.sizeOf29
  v31 := Tryz.zeroValue29
  t37 := Tryz.underlying184
  a37 := Tryz.isAgg184
  z37 := Tryz.sizeOf184
  v37 := Tryz.zeroValue184
  t70 := Tryz.underlying183
  a70 := Tryz.isAgg183
  z70 := Tryz.sizeOf183
  v70 := Tryz.zeroValue183
  t72 := Tryz.underlying186
  a72 := Tryz.isAgg186
  z72 := Tryz.sizeOf186
  v72 := Tryz.zeroValue186
  t75 := Tryz.underlying189
  a75 := Tryz.isAgg189
  z75 := Tryz.sizeOf189
  v75 := Tryz.zeroValue189
  t76 := Tryz.underlying190
  a76 := Tryz.isAgg190
  z76 := Tryz.sizeOf190
  v76 := Tryz.zeroValue190
  t127 := Tryz.underlying201
  a127 := Tryz.isAgg201
  z127 := Tryz.sizeOf201
  v127 := Tryz.zeroValue201
  t164 := Tryz.underlying205
  a164 := Tryz.isAgg205
  z164 := Tryz.sizeOf205
  v164 := Tryz.zeroValue205 }
theorem Tryz.Builder_Extra_156 : Builder.Extra Tryz.prog Tryz.lays156_ren := {
  sizeBuilder := by kernel_rfl
  liesBuilder := by kernel_rfl
  t5 := Tryz.underlying5
  a5 := Tryz.isAgg5
  z5 := Tryz.sizeOf5
  v5 := Tryz.zeroValue5
  infoByte := by kernel_rfl
  cellsByte := by kernel_rfl
  sizeByte := by kernel_rfl
  neB5 := by decide }
open Go.RowKit in
theorem Tryz.strings_Join (bk o c : Nat) (xs : List ByteArray) (sep : ByteArray) (w : World) (hcells : ∀ (j : Nat) x, xs[j]? = some x → w.cell? ⟨bk, o + j, none⟩ = some (.string x)) (hbk : bk < w.heap.size) (hN : xs.length ≤ 140737488355328) (hcap : xs.length ≤ c) (hlen : (Lib.join (xs.map (·.data.toList)) sep.data.toList).length ≤ 140737488355328) :
    Calls Tryz.prog 122 #[.slice (some ⟨bk, o, none⟩) xs.length c, .string sep] w fun e w' => e = .returned (.string ⟨(Lib.join (xs.map (·.data.toList)) sep.data.toList).toArray⟩) ∧ Below w.heap.size w w' := Any.strings_Join Tryz.lays156 Tryz.Builder_Extra_156 bk o c xs sep w hcells hbk hN hcap hlen
open Go.RowKit in
theorem Tryz.Builder_String_any_k (B b : Nat) (l : List UInt8) (w : World) (h : Lib.IsBuilderF 186 5 B b (Lib.byteCells l) w) (hBw : B ≤ w.heap.size) :
    Calls Tryz.prog 144 #[.pointer (some ⟨b, 0, none⟩)] w fun e w' => e = .returned (.string ⟨l.toArray⟩) ∧ (Lib.IsBuilderF 186 5 B b (Lib.byteCells l) w' ∧ Below B w w' ∧ Lib.OthersKept 5 (some b) w w') := Any.Builder_String_any_k Tryz.lays169 Tryz.Builder_Extra_169 B b l w h hBw
def Tryz.lays217_ren : Go.Shelf.Ren := ⟨fun | 217 => 164 | 266 => 168 | n => n, fun | 9 => 9 | 5 => 5 | 3 => 3 | n => n, fun | n => n⟩
theorem Tryz.lays217 : Go.Proofs.Lays.n217 Tryz.prog Tryz.lays217_ren := {
  mixed := by kernel_rfl
  f217 := Tryz.func164.trans (congrArg some (by kernel_rfl))
  f266 := Tryz.func168.trans (congrArg some (by kernel_rfl))
  t3 := Tryz.underlying3
  a3 := Tryz.isAgg3
  z3 := Tryz.sizeOf3
  v3 := Tryz.zeroValue3
  t5 := Tryz.underlying5
  a5 := Tryz.isAgg5
  z5 := Tryz.sizeOf5
  v5 := Tryz.zeroValue5
  t9 := Tryz.underlying9
  a9 := Tryz.isAgg9
  z9 := Tryz.sizeOf9
  v9 := Tryz.zeroValue9 }
open Go.RowKit Go.Lib in
theorem Tryz.stringslite_IndexByte (s : ByteArray) (c : Int) (w : World) :
    Calls Tryz.prog 164 #[.string s, .int .u8 c] w fun e w' => e = .returned (.int .i64 (Lib.indexByte s.data.toList c.toNat.toUInt8)) ∧ w' = w := Any.stringslite_IndexByte Tryz.lays217 s c w
def Tryz.lays99_ren : Go.Shelf.Ren := ⟨fun | 99 => 150 | 206 => 158 | n => n, fun | 9 => 9 | 4 => 4 | 3 => 3 | n => n, fun | n => n⟩
theorem Tryz.lays99 : Go.Proofs.Lays.n99 Tryz.prog Tryz.lays99_ren := {
  mixed := by kernel_rfl
  f99 := Tryz.func150.trans (congrArg some (by kernel_rfl))
  f206 := Tryz.func158.trans (congrArg some (by kernel_rfl))
  t3 := Tryz.underlying3
  a3 := Tryz.isAgg3
  z3 := Tryz.sizeOf3
  v3 := Tryz.zeroValue3
  t4 := Tryz.underlying4
  a4 := Tryz.isAgg4
  z4 := Tryz.sizeOf4
  v4 := Tryz.zeroValue4
  t9 := Tryz.underlying9
  a9 := Tryz.isAgg9
  z9 := Tryz.sizeOf9
  v9 := Tryz.zeroValue9 }
open Go.RowKit Go.Lib in
theorem Tryz.strings_HasPrefix (s p : ByteArray) (w : World) :
    Calls Tryz.prog 150 #[.string s, .string p] w fun e w' => e = .returned (.bool (Lib.hasPrefix s.data.toList p.data.toList)) ∧ w' = w := Any.strings_HasPrefix Tryz.lays99 s p w
end Go.Proofs
end
section
namespace Go.Proofs.YtciijpahjjoppaaGreat
open Go.RowKit Go.Deep

theorem ba_eq_iff (a b : ByteArray) : (a.toList == b.toList) = true ↔ a = b := by
  constructor
  · intro h
    have h' : a.toList = b.toList := by simpa using h
    rw [ByteArray.toList_eq, ByteArray.toList_eq] at h'
    cases a; cases b
    simp_all
  · rintro rfl; simp
theorem box_first (w : World) (a b : Obj) : ((w.alloc a).alloc b).heap[w.heap.size]? = some a := by
  rw [((Below.refl (w.alloc a).heap.size (w.alloc a)).alloc (Nat.le_refl _) b).block _ (by simp)]
  exact heap_new w a
theorem box_second (w : World) (a b : Obj) : ((w.alloc a).alloc b).heap[w.heap.size + 1]? = some b := by
  have := heap_new (w.alloc a) b
  rwa [World.size_alloc] at this
def nth (z : List D) (i : Nat) : D := z.getD i (.int 0)
theorem same_neq {α : Type} {x y : α} (h : same x y = false) : x ≠ y := fun e => by
  subst e
  rw [same_refl] at h
  cases h
end Go.Proofs.YtciijpahjjoppaaGreat
end
section
namespace Go.Proofs.YtciijpahjjoppaaGreat
open Go.RowKit Go.Deep

def splitD : List UInt8 → List (List UInt8)
  | [] => [[]]
  | c :: r => if c = 36 then [] :: splitD r else match splitD r with
    | h :: t => (c :: h) :: t
    | [] => [[c]]
theorem splitD_ne (l : List UInt8) : splitD l ≠ [] := by
  cases l with
  | nil => simp [splitD]
  | cons c r =>
    unfold splitD
    split
    · simp
    · split <;> simp
theorem splitD_cons_no {c : UInt8} {r : List UInt8} (h : c ≠ 36) : ∃ p t, splitD r = p :: t ∧ splitD (c :: r) = (c :: p) :: t := by
  cases e : splitD r with
  | nil => exact absurd e (splitD_ne r)
  | cons p t => exact ⟨p, t, rfl, by rw [splitD, if_neg h, e]⟩
theorem splitD_miss (l : List UInt8) (h : Lib.indexByte l 36 = -1) : splitD l = [l] := by
  induction l with
  | nil => rfl
  | cons c r ih =>
    unfold Lib.indexByte at h
    split at h
    · simp at h
    · rename_i hc
      have hc' : c ≠ 36 := by simpa using hc
      split at h
      · rename_i h1
        obtain ⟨p, t, e1, e2⟩ := splitD_cons_no (r := r) hc'
        rw [ih (by simpa using h1)] at e1
        simp at e1
        rw [e2, ← e1.1, ← e1.2]
      · have := Lib.indexByte_ge r 36
        rename_i h1
        have h1' : Lib.indexByte r 36 ≠ -1 := by simpa using h1
        omega
theorem splitD_hit (l : List UInt8) (i : Nat) (h : Lib.indexByte l 36 = i) : i < l.length ∧ splitD l = l.take i :: splitD (l.drop (i + 1)) := by
  induction l generalizing i with
  | nil => simp [Lib.indexByte] at h
  | cons c r ih =>
    unfold Lib.indexByte at h
    split at h
    · rename_i hc
      have hc' : c = 36 := by simpa using hc
      obtain rfl : i = 0 := by omega
      subst hc'
      exact ⟨by simp, by simp [splitD]⟩
    · rename_i hc
      have hc' : c ≠ 36 := by simpa using hc
      split at h
      · omega
      · have := Lib.indexByte_ge r 36
        rename_i h1
        have h1' : Lib.indexByte r 36 ≠ -1 := by simpa using h1
        obtain ⟨j, hj⟩ := Int.eq_ofNat_of_zero_le (show 0 ≤ Lib.indexByte r 36 by omega)
        obtain rfl : i = j + 1 := by omega
        obtain ⟨h2, h3⟩ := ih j hj
        obtain ⟨p, t, e1, e2⟩ := splitD_cons_no (r := r) hc'
        rw [h3] at e1
        simp at e1
        exact ⟨by simp; omega, by rw [e2, ← e1.1, ← e1.2]; simp⟩
def ba (l : List UInt8) : ByteArray := ⟨l.toArray⟩
theorem ba_data (s : ByteArray) : ba s.data.toList = s := by cases s; simp [ba]
theorem ba_list (l : List UInt8) : (ba l).data.toList = l := by simp [ba]
theorem ba_size (l : List UInt8) : (ba l).size = l.length := by simp [ba, ByteArray.size]
/-- A text's parts. -/
def parts (s : ByteArray) : List ByteArray := (splitD s.data.toList).map ba
theorem splitD_len (l : List UInt8) : (splitD l).length ≤ l.length + 1 := by
  induction l with
  | nil => simp [splitD]
  | cons c r ih =>
    unfold splitD
    split
    · simp; omega
    · split
      · rename_i h
        rw [h] at ih
        simp at ih ⊢
        omega
      · simp
theorem splitD_mem (l : List UInt8) : ∀ p ∈ splitD l, p.length ≤ l.length := by
  induction l with
  | nil => simp [splitD]
  | cons c r ih =>
    intro p hp
    unfold splitD at hp
    split at hp
    · rcases List.mem_cons.1 hp with rfl | hp
      · simp
      · have := ih p hp; simp; omega
    · split at hp
      · rename_i h t e
        rcases List.mem_cons.1 hp with rfl | hp
        · have := ih h (by rw [e]; simp); simp; omega
        · have := ih p (by rw [e]; simp [hp]); simp; omega
      · rename_i e
        exact absurd e (splitD_ne r)
theorem parts_len (s : ByteArray) : (parts s).length ≤ s.size + 1 := by
  have h := splitD_len s.data.toList
  unfold parts
  rw [List.length_map]
  exact h
theorem parts_mem (s : ByteArray) : ∀ p ∈ parts s, p.size ≤ s.size := fun p hp => by
  obtain ⟨q, hq, rfl⟩ := List.mem_map.1 hp
  have := splitD_mem s.data.toList q hq
  rw [ba_size]
  exact this
theorem parts_ne (s : ByteArray) : parts s ≠ [] := by simp [parts, splitD_ne]

def dollar : ByteArray := ⟨#[36]⟩
/-- What Cut tells. -/
def cutD (s : ByteArray) : ByteArray × ByteArray × Bool :=
  if Lib.indexByte s.data.toList 36 = -1 then (s, ⟨#[]⟩, false) else (ba (s.data.toList.take (Lib.indexByte s.data.toList 36).toNat), ba (s.data.toList.drop ((Lib.indexByte s.data.toList 36).toNat + 1)), true)

set_option maxRecDepth 100000 in
set_option maxHeartbeats 1000000 in
theorem index_D (s : ByteArray) (w : World) : Calls Tryz.prog 160 #[.string s, .string ⟨#[36]⟩] w fun e w' => e = .returned (.int .i64 (Lib.indexByte s.data.toList 36)) ∧ w' = w := by
  cases hq : ([36] : List UInt8) == s.toList with
  | true =>
    have e : s.data.toList = [36] := by rw [← ByteArray.toList_eq]; exact (by simpa using hq : [36] = s.toList).symm
    have HE := Lib.hid e
    clear e
    go_enter Tryz.func160, Tryz.ntmps160
    go_wp2_with fail
    go_ret
    exact ⟨by rw [HE.out]; rfl, rfl⟩
  | false =>
    go_enter Tryz.func160, Tryz.ntmps160
    go_wp2_with fail
    change Calls Tryz.prog 164 #[Value.string s, Value.int IntKind.u8 36] w _
    refine (Tryz.stringslite_IndexByte s 36 _).mono ?_
    rintro e w' ⟨rfl, rfl⟩
    go_wp2_with fail
    go_ret
    exact ⟨rfl, rfl⟩
end Go.Proofs.YtciijpahjjoppaaGreat
end
section
namespace Go.Proofs.YtciijpahjjoppaaGreat
open Go.RowKit Go.Deep

/-- What Cut leaves. -/
def CutPost (s : ByteArray) (w : World) (e : Ending) (w' : World) : Prop := ∃ p r m, e = .returned (.tuple #[.string p, .string r, .bool m]) ∧ (∃ n, w' = w.drewN n) ∧ ((m = false ∧ parts s = [p]) ∨ (m = true ∧ parts s = p :: parts r ∧ r.size < s.size))
theorem ext_take (s : ByteArray) (k : Nat) : (s.extract 0 k).data.toList = s.data.toList.take k := by
  simp [ByteArray.data_extract, Array.toList_extract, List.extract_eq_take_drop]
theorem ext_drop (s : ByteArray) (k : Nat) : (s.extract k s.size).data.toList = s.data.toList.drop k := by
  simp only [ByteArray.data_extract, Array.toList_extract, List.extract_eq_take_drop]
  rw [List.take_of_length_le (by simp)]
theorem ba_take (s : ByteArray) (i : Nat) : s.extract 0 i = ba (s.data.toList.take i) := by
  rw [← ext_take, ba_data]
theorem ba_drop (s : ByteArray) (i : Nat) : s.extract i s.size = ba (s.data.toList.drop i) := by
  rw [← ext_drop, ba_data]
theorem cutPost_hit (s : ByteArray) (i n : Nat) (w : World) (h : Lib.indexByte s.data.toList 36 = i) : CutPost s w (.returned (.tuple #[.string (s.extract 0 i), .string (s.extract (i + 1) s.size), .bool true])) (w.drewN n) := by
  obtain ⟨h1, h2⟩ := splitD_hit _ i h
  refine ⟨_, _, true, rfl, ⟨n, rfl⟩, .inr ⟨rfl, ?_, ?_⟩⟩
  · unfold parts
    rw [h2, ba_take, ba_drop, ba_list]
    rfl
  · rw [ba_drop, ba_size, List.length_drop]
    have h3 : i < s.size := h1
    show s.size - (i + 1) < s.size
    omega
theorem cutPost_miss (s : ByteArray) (w : World) (h : Lib.indexByte s.data.toList 36 = -1) : CutPost s w (.returned (.tuple #[.string s, .string ⟨#[]⟩, .bool false])) w := by
  refine ⟨s, _, false, rfl, ⟨0, rfl⟩, .inl ⟨rfl, ?_⟩⟩
  unfold parts
  rw [splitD_miss _ h]
  simp [ba_data]
set_option maxRecDepth 100000 in
set_option maxHeartbeats 1000000 in
theorem cutLite_any (s : ByteArray) (w : World) (hs : s.size ≤ maxLen) : Calls Tryz.prog 154 #[.string s, .string ⟨#[36]⟩] w (CutPost s w) := by
  unfold maxLen at hs
  by_cases hm : Lib.indexByte s.data.toList 36 = -1
  · have HM := Lib.hid hm
    clear hm
    go_enter Tryz.func154, Tryz.ntmps154
    go_wp2_with fail
    refine (index_D s _).mono ?_
    rw [HM.out]
    rintro e w' ⟨rfl, rfl⟩
    go_wp2_with fail
    go_ret3
    exact cutPost_miss s _ HM.out
  · obtain ⟨i, hi⟩ := Int.eq_ofNat_of_zero_le (show 0 ≤ Lib.indexByte s.data.toList 36 by have := Lib.indexByte_ge s.data.toList 36; omega)
    have HI := Lib.hid hi
    have hlt : i < s.size := (splitD_hit _ i hi).1
    have c1 : (0 : Int) ≤ ↑i := by omega
    have c2 : (↑i : Int) ≤ ↑s.size := by omega
    have c3 : (0 : Int) ≤ ↑i + 1 := by omega
    have c4 : (↑i + 1 : Int) ≤ ↑s.size := by omega
    clear hi hm
    go_enter Tryz.func154, Tryz.ntmps154
    go_wp2_with fail
    refine (index_D s _).mono ?_
    rw [HI.out]
    rintro e w' ⟨rfl, rfl⟩
    go_wp2_with fail
    go_region
    go_wp2_with fail
    go_ret3
    exact cutPost_hit s i _ _ HI.out
set_option maxRecDepth 100000 in
set_option maxHeartbeats 1000000 in
theorem cut_any (s : ByteArray) (w : World) (hs : s.size ≤ maxLen) : Calls Tryz.prog 141 #[.string s, .string ⟨#[36]⟩] w (CutPost s w) := by
  go_enter Tryz.func141, Tryz.ntmps141
  go_wp2_with fail
  refine (cutLite_any s _ hs).mono ?_
  rintro e w' ⟨p, r, m, rfl, ⟨n, rfl⟩, h⟩
  have H := Lib.hid h
  clear h
  go_wp2_with fail
  go_ret3
  exact ⟨p, r, m, rfl, ⟨n, rfl⟩, H.out⟩
end Go.Proofs.YtciijpahjjoppaaGreat
end
section
namespace Go.Proofs.YtciijpahjjoppaaGreat
open Go.RowKit Go.Shelf Go.Deep
attribute [local go_sem] Oper.semAt_some

abbrev Tx (M : Nat) := { b : ByteArray // b.size ≤ M }
theorem grown_drewN (w : World) (q : Nat) : w.grownBy (w.drewN q) none := ⟨rfl, rfl, rfl, Nat.le_refl _, fun _ _ _ => rfl⟩
def leftOf : Value → Value → Nat
  | .string x, .bool true => x.size + 1
  | _, _ => 0

set_option maxRecDepth 100000 in
set_option maxHeartbeats 2000000 in
theorem parts_stops (M : Nat) (hM : M ≤ maxLen) (n : Nat) (hn : 1 ≤ n) (Bn : Nat) (s : ByteArray) (hs : s.size ≤ M) (Kp : World → World → Prop) (w : World) (hBn : w.cell? ⟨Bn, 0, none⟩ = some (.string s)) :
    SeqStopsK Fence.wide n Tryz.prog 140 #[.pointer (some ⟨Bn, 0, none⟩)] (fun x : Tx M => #[.string x.1]) Kp (fun xs => xs.map (·.1) = parts s) (fun pre => pre.map (·.1) <+: parts s) (parts s).length w := fun l J Jx W hW hJ _ hY h0 => by
  have hc : W.cell? ⟨Bn, 0, none⟩ = some (.string s) := by
    have hlt : Bn < w.heap.size := block_lt_of_cell hBn
    rw [hW.cell (p := ⟨Bn, 0, none⟩) hlt]
    exact hBn
  have HY := Lib.hid hY
  have HJ := Lib.hid hJ
  clear hY hJ hW hBn
  refine callsIn_of_wp Tryz.func140 rfl trivial ?_ rfl
  simp only [Tryz.ntmps140, List.size_toArray, List.length_cons, List.length_nil, Nat.reduceAdd, Nat.reduceSub, Array.replicate_succ, Array.replicate_zero, List.push_toArray, List.append_toArray, List.nil_append, List.cons_append]
  gi_wp2
  gi_loopw [3, 4] (fun p m wr => ∃ (pre : List (Tx M)) (left : ByteArray) (more : Bool), p = .string left ∧ m = .bool more ∧ (more = true → left.size ≤ M) ∧ J pre wr ∧ parts s = pre.map (·.1) ++ (if more then parts left else []))
    (fun p m _ => leftOf p m)
  case atStart =>
    exact ⟨[], s, true, rfl, rfl, fun _ => hs, h0, by simp⟩
  case round =>
    obtain ⟨pre, left, more, rfl, rfl, hl0, hJs, hp⟩ := hrel
    have HP := Lib.hid hp
    clear hp
    cases more with
    | false =>
      gi_wp2
      go_end0
      exact ⟨⟨_, rfl⟩, .inl ⟨pre, by simpa using HP.out.symm, hJs⟩⟩
    | true =>
      have hl := hl0 rfl
      clear hl0
      have hne : pre.length < (parts s).length := by
        rw [HP.out, List.length_append, List.length_map]
        have := List.length_pos_iff.2 (parts_ne left)
        simpa using this
      gi_wp2_with (refine ⟨trivial, ?_⟩; gi_at_call 141; refine (callsIn_wide.2 (cut_any left _ (Nat.le_trans hl hM))).mono ?_)
      rintro e w' ⟨p, r, m, rfl, ⟨q, rfl⟩, hcut⟩
      have hpl : p.size ≤ M := by
        have h1 : p ∈ parts left := by rcases hcut with ⟨_, h⟩ | ⟨_, h, _⟩ <;> simp [h]
        exact Nat.le_trans (parts_mem left p h1) hl
      have hrl : m = true → r.size ≤ M ∧ r.size < left.size := by
        rintro rfl
        rcases hcut with ⟨h, _⟩ | ⟨_, _, h⟩
        · cases h
        · exact ⟨by omega, h⟩
      have hnx : parts s = (pre ++ [(⟨p, hpl⟩ : Tx M)]).map (·.1) ++ (if m then parts r else []) := by
        rw [HP.out]
        rcases hcut with ⟨rfl, h⟩ | ⟨rfl, h, _⟩ <;> simp [h]
      have HR := Lib.hid hrl
      have HN := Lib.hid hnx
      clear hcut hrl hnx
      have hJ2 : J pre (wr.drewN q) := HJ.out pre wr _ none hJs (grown_drewN wr q) (by simp)
      obtain ⟨fn, tmps, assign, body, hy, hR⟩ := HY.out pre ⟨p, hpl⟩ (wr.drewN q) hJ2 hne
      dsimp only at hy
      gi_wp2
      refine hR.mono ?_
      rintro e W3 (⟨rfl, hJ3, _⟩ | ⟨rfl, hJx3⟩)
      · clear hy hR
        gi_wp2
        go_roundw
        case rel =>
          exact ⟨pre ++ [⟨p, hpl⟩], r, m, rfl, rfl, fun h => (HR.out h).1, hJ3, HN.out⟩
        case measure => cases m <;> simp [leftOf]; exact (HR.out rfl).2
      · gi_wp2
        refine bodyPost_ret (results_none rfl _ _ _) rfl ?_
        exact ⟨⟨_, rfl⟩, .inr ⟨pre ++ [⟨p, hpl⟩], ⟨_, HN.out.symm⟩, hJx3⟩⟩
end Go.Proofs.YtciijpahjjoppaaGreat
end
section
namespace Go.Proofs.YtciijpahjjoppaaGreat
open Go.RowKit Go.Shelf Go.Deep

/-- All blocks but those that are owned are as they were; what is owned behind is owned ahead, or new; from 'hi' on whatever is no cells is as it was. -/
structure Kept (O : World → Nat → Prop) (hi : Nat) (w w' : World) : Prop where
  os : w'.os = w.os
  tape : w'.tape = w.tape
  output : w'.output = w.output
  size : w.heap.size ≤ w'.heap.size
  block : ∀ b, b < w.heap.size → ¬ O w b → w'.heap[b]? = w.heap[b]?
  own : ∀ b, O w' b → O w b ∨ w.heap.size ≤ b
  others : ∀ (b : Nat) (o : Obj), hi ≤ b → w.heap[b]? = some o → o.isCells = false → w'.heap[b]? = some o
theorem Kept.refl (O : World → Nat → Prop) (hi : Nat) (w : World) : Kept O hi w w := ⟨rfl, rfl, rfl, Nat.le_refl _, fun _ _ _ => rfl, fun _ h => .inl h, fun _ _ _ h _ => h⟩
theorem Kept.trans {O : World → Nat → Prop} {hi : Nat} {a b c : World} (h : Kept O hi a b) (k : Kept O hi b c) : Kept O hi a c :=
  ⟨k.os.trans h.os, k.tape.trans h.tape, k.output.trans h.output, Nat.le_trans h.size k.size,
    fun i hi' ho => (k.block i (Nat.lt_of_lt_of_le hi' h.size) (fun e => by rcases h.own i e with e | e; exact ho e; omega)).trans (h.block i hi' ho),
    fun i e => by
      rcases k.own i e with e | e
      · exact h.own i e
      · exact .inr (Nat.le_trans h.size e),
    fun i o h1 h2 h3 => k.others i o h1 (h.others i o h1 h2 h3) h3⟩
theorem Kept.not_own {O : World → Nat → Prop} {hi : Nat} {w w' : World} (h : Kept O hi w w') {c : Nat} (hc : c < w.heap.size) (hn : ¬ O w c) : ¬ O w' c := fun e => by
  rcases h.own c e with e | e
  · exact hn e
  · omega

def lim : Nat := 8388608
structure Clo (σ : Type) (g : Nat) (c1 c2 : Value) where
  O : World → Nat → Prop
  low : Nat
  hi : Nat
  I : Nat → σ → World → Prop
  step : σ → ByteArray → σ
  out : σ → ByteArray → ByteArray
  ltO : ∀ {n s w b}, I n s w → O w b → low ≤ b ∧ b < w.heap.size
  cellsO : ∀ {n s w b}, I n s w → O w b → hi ≤ b → ∃ o : Obj, w.heap[b]? = some o ∧ o.isCells = true
  hiI : ∀ {n s w}, I n s w → low ≤ hi ∧ hi ≤ w.heap.size
  keep : ∀ {n s w w'}, I n s w → w.heap.size ≤ w'.heap.size → (∀ b, b < low → w'.heap[b]? = w.heap[b]?) → (∀ b, O w b → w'.heap[b]? = w.heap[b]?) → I n s w' ∧ ∀ b, O w' b → O w b
  down : ∀ {n s w}, I (n + 1) s w → I n s w
  outLe : ∀ {n s w x}, I (n + 1) s w → x.size ≤ lim → (out s x).size ≤ lim
  call : ∀ n s w x, I (n + 1) s w → x.size ≠ 0 → x.size ≤ lim → Calls Tryz.prog g #[.string x, c1, c2] w fun e w' => e = .returned (.string (out s x)) ∧ I n (step s x) w' ∧ Kept O hi w w'

section
variable {σ : Type} {g : Nat} {c1 c2 : Value} (C : Clo σ g c1 c2)
theorem Clo.downs {n m : Nat} {s : σ} {w : World} (h : C.I (n + m) s w) : C.I n s w := by
  induction m with
  | zero => exact h
  | succ m ih => exact ih (C.down h)
/-- A step that turns nothing that is owned, and nothing that lay. -/
theorem Clo.next {n : Nat} {s : σ} {w0 w w' : World} (hk : Kept C.O C.hi w0 w) (hI : C.I n s w) (h0 : C.low ≤ w0.heap.size) (hos : w'.os = w.os) (htape : w'.tape = w.tape) (hout : w'.output = w.output) (hsz : w.heap.size ≤ w'.heap.size)
    (hown : ∀ b, C.O w b → w'.heap[b]? = w.heap[b]?) (hold : ∀ b, b < w0.heap.size → w'.heap[b]? = w.heap[b]?) : Kept C.O C.hi w0 w' ∧ C.I n s w' := by
  obtain ⟨h1, h2⟩ := C.keep hI hsz (fun b hb => hold b (by omega)) hown
  refine ⟨⟨hos.trans hk.os, htape.trans hk.tape, hout.trans hk.output, Nat.le_trans hk.size hsz, fun b hb ho => (hold b hb).trans (hk.block b hb ho), fun b e => hk.own b (h2 b e), fun b o hb he hc => ?_⟩, h1⟩
  have hlt : b < w0.heap.size := heap_lt he
  rw [hold b hlt]
  exact hk.others b o hb he hc
theorem Clo.below {n : Nat} {s : σ} {w0 w w' : World} (hk : Kept C.O C.hi w0 w) (hI : C.I n s w) (h0 : C.low ≤ w0.heap.size) (hb : Below w.heap.size w w') : Kept C.O C.hi w0 w' ∧ C.I n s w' :=
  C.next hk hI h0 hb.os hb.tape hb.output hb.size (fun b h => hb.block b (C.ltO hI h).2) (fun b h => hb.block b (Nat.lt_of_lt_of_le h hk.size))
/-- A part, and what comes behind it. -/
def Clo.pt (s : σ) (x : ByteArray) : ByteArray × σ := if x.size = 0 then (x, s) else (C.out s x, C.step s x)
def Clo.pts : σ → List ByteArray → List ByteArray × σ
  | s, [] => ([], s)
  | s, x :: l => ((C.pt s x).1 :: (Clo.pts (C.pt s x).2 l).1, (Clo.pts (C.pt s x).2 l).2)
theorem Clo.pts_snoc (s : σ) (l : List ByteArray) (x : ByteArray) : C.pts s (l ++ [x]) = ((C.pts s l).1 ++ [(C.pt (C.pts s l).2 x).1], (C.pt (C.pts s l).2 x).2) := by
  induction l generalizing s with
  | nil => rfl
  | cons y l ih => simp [Clo.pts, ih]
theorem Clo.pts_len (s : σ) (l : List ByteArray) : (C.pts s l).1.length = l.length := by
  induction l generalizing s with
  | nil => rfl
  | cons y l ih => simp [Clo.pts, ih]
end
/-- What a name becomes. -/
def joinD (l : List ByteArray) : ByteArray := ⟨(Lib.join (l.map (·.data.toList)) [36]).toArray⟩
def Clo.nm {σ : Type} {g : Nat} {c1 c2 : Value} (C : Clo σ g c1 c2) (s : σ) (x : ByteArray) : ByteArray × σ := (joinD (C.pts s (parts x)).1, (C.pts s (parts x)).2)
theorem join_len (l : List (List UInt8)) (m : Nat) (h : ∀ x ∈ l, x.length ≤ m) : (Lib.join l [36]).length ≤ l.length * (m + 1) := by
  cases l with
  | nil => simp [Lib.join_nil]
  | cons x r =>
    rw [Lib.join_cons, List.length_append]
    have hx := h x (by simp)
    have ht : (Lib.joinTail [36] r).length ≤ r.length * (m + 1) := by
      have hr : ∀ y ∈ r, y.length ≤ m := fun y hy => h y (by simp [hy])
      clear h hx
      unfold Lib.joinTail
      induction r with
      | nil => simp
      | cons y r ih =>
        have h1 := hr y (by simp)
        have h2 := ih fun z hz => hr z (by simp [hz])
        simp only [List.map_cons, List.flatten_cons, List.length_append, List.length_cons, List.length_nil, Nat.add_mul] at h2 ⊢
        omega
    simp only [List.length_cons, Nat.add_mul] at ht ⊢
    omega
theorem Clo.pts_le {σ : Type} {g : Nat} {c1 c2 : Value} (C : Clo σ g c1 c2) {n : Nat} {s : σ} {x : ByteArray} {w : World} (hI : C.I (n + 1) s w) (hx : x.size ≤ lim) : (C.pt s x).1.size ≤ lim := by
  unfold Clo.pt
  split
  · exact hx
  · exact C.outLe hI hx
end Go.Proofs.YtciijpahjjoppaaGreat
end
section
namespace Go.Proofs.YtciijpahjjoppaaGreat
open Go.RowKit Go.Shelf Go.Deep
attribute [local go_sem] Oper.semAt_some

section
variable {σ : Type} {g : Nat} {c1 c2 : Value}
structure NmJ (C : Clo σ g c1 c2) (k : Nat) (w : World) (ys : List ByteArray) (st : σ) (W : World) : Prop where
  i : C.I k st W
  bt : Boxed W w.heap.size 97 (.func (.func g) #[] #[c1, c2])
  row : ∃ v, Boxed W (w.heap.size + 1) 29 v ∧ W.ownsRow (w.heap.size + 1) 9 1 v ys.length (ys.map Value.string) ∧ (∀ b, v.ownBlock = some b → ¬ C.O W b)
  nt : ¬ C.O W w.heap.size
  nl : ¬ C.O W (w.heap.size + 1)
  kept : Kept C.O C.hi w W
  low : C.low ≤ w.heap.size
  his : C.hi ≤ w.heap.size
  sz : w.heap.size + 3 ≤ W.heap.size
  small : ∀ y ∈ ys, y.size ≤ lim
theorem rowBlock {w : World} {base e sz : Nat} {v : Value} {n : Nat} {xs : List Value} (h : w.ownsRow base e sz v n xs) {b : Nat} (hb : v.ownBlock = some b) : base ≤ b ∧ b < w.heap.size ∧ ∃ cs t fz, w.heap[b]? = some (.cells cs t fz) := by
  rcases h.2 with ⟨rfl, _⟩ | ⟨q, cap, cur, rfl, h1, h2, _⟩
  · simp [Value.ownBlock] at hb
  · obtain rfl : q = b := by simpa [Value.ownBlock] using hb
    exact ⟨h1, heap_lt h2, _, _, _, h2⟩
theorem ownsRow_same {w w' : World} {base e sz : Nat} {v : Value} {n : Nat} {xs : List Value} (h : w.ownsRow base e sz v n xs) (hb : ∀ b, v.ownBlock = some b → w'.heap[b]? = w.heap[b]?) : w'.ownsRow base e sz v n xs := by
  refine ⟨h.1, ?_⟩
  rcases h.2 with h4 | ⟨q, cap, cur, hv, hb', hg, r⟩
  · exact .inl h4
  · exact .inr ⟨q, cap, cur, hv, hb', (hb q (by rw [hv]; rfl)).trans hg, r⟩
/-- A step that turns none of these blocks. -/
theorem NmJ.same {C : Clo σ g c1 c2} {k : Nat} {w : World} {ys : List ByteArray} {st : σ} {W W' : World} (h : NmJ C k w ys st W) (hg : ∃ row, W.grownBy W' row ∧ ∀ r, row = some r → w.heap.size + 3 ≤ r ∧ ∃ o : Obj, W.heap[r]? = some o ∧ o.isCells = false) : NmJ C k w ys st W' := by
  obtain ⟨row, hg, hr⟩ := hg
  have cells : ∀ (b : Nat) (cs : Array Value) (t : TypeId) (fz : Nat × Nat), W.heap[b]? = some (.cells cs t fz) → W'.heap[b]? = W.heap[b]? := fun b cs t fz hb => hg.block b (heap_lt hb) fun e => by
    obtain ⟨_, o, ho, hc⟩ := hr b e.symm
    rw [hb] at ho
    cases ho
    cases hc
  have low : ∀ b, b < w.heap.size → W'.heap[b]? = W.heap[b]? := fun b hb => hg.block b (by have := h.sz; omega) fun e => by have := (hr b e.symm).1; omega
  have own : ∀ b, C.O W b → W'.heap[b]? = W.heap[b]? := fun b hb => by
    rcases Nat.lt_or_ge b C.hi with h1 | h1
    · exact low b (by have := h.his; omega)
    · obtain ⟨o, ho, hc⟩ := C.cellsO h.i hb h1
      cases o with
      | cells cs t fz => exact cells b cs t fz ho
      | _ => cases hc
  obtain ⟨k1, k2⟩ := C.keep h.i hg.size (fun b hb => low b (by have := h.low; omega)) own
  obtain ⟨v, h1, h2, h3⟩ := h.row
  exact ⟨k1, (cells _ _ _ _ h.bt).trans h.bt, ⟨v, (cells _ _ _ _ h1).trans h1, ownsRow_same h2 fun b hb => by obtain ⟨_, _, cs, t, fz, e⟩ := rowBlock h2 hb; exact cells b cs t fz e, fun b hb e => h3 b hb (k2 b e)⟩, fun e => h.nt (k2 _ e), fun e => h.nl (k2 _ e),
    (C.next h.kept h.i h.low hg.os hg.tape hg.output hg.size own (fun b hb => low b hb)).1, h.low, h.his, Nat.le_trans h.sz hg.size, h.small⟩
theorem NmJ.called {C : Clo σ g c1 c2} {k k' : Nat} {w : World} {ys : List ByteArray} {st st' : σ} {W W' : World} (h : NmJ C k w ys st W) (hk : Kept C.O C.hi W W') (hi : C.I k' st' W') : NmJ C k' w ys st' W' := by
  obtain ⟨v, h1, h2, h3⟩ := h.row
  have hz := h.sz
  exact ⟨hi, (hk.block _ (by omega) h.nt).trans h.bt, ⟨v, (hk.block _ (by omega) h.nl).trans h1, ownsRow_same h2 fun b hb => hk.block b (rowBlock h2 hb).2.1 (h3 b hb), fun b hb => hk.not_own (rowBlock h2 hb).2.1 (h3 b hb)⟩, hk.not_own (by omega) h.nt, hk.not_own (by omega) h.nl, h.kept.trans hk, h.low, h.his, Nat.le_trans hz hk.size, h.small⟩
theorem NmJ.down {C : Clo σ g c1 c2} {k : Nat} {w : World} {ys : List ByteArray} {st : σ} {W : World} (h : NmJ C (k + 1) w ys st W) : NmJ C k w ys st W :=
  ⟨C.down h.i, h.bt, h.row, h.nt, h.nl, h.kept, h.low, h.his, h.sz, h.small⟩
theorem NmJ.appended {C : Clo σ g c1 c2} {k : Nat} {w : World} {ys : List ByteArray} {st : σ} {W w1 : World} {v v' : Value} {y : ByteArray} {tmp : Obj} (h : NmJ C k w ys st W)
    (hno : ∀ b, v.ownBlock = some b → w.heap.size + 1 ≤ b ∧ ¬ C.O W b) (hy : y.size ≤ lim)
    (hg : (W.alloc tmp).grownBy w1 v.ownBlock) (hat : v'.ownBlock = v.ownBlock ∨ v'.ownBlock = some (W.alloc tmp).heap.size)
    (hb2 : Boxed (w1.setCell ⟨w.heap.size + 1, 0, none⟩ v') (w.heap.size + 1) 29 v') (hr2 : (w1.setCell ⟨w.heap.size + 1, 0, none⟩ v').ownsRow (w.heap.size + 1) 9 1 v' (ys ++ [y]).length ((ys ++ [y]).map Value.string)) :
    NmJ C k w (ys ++ [y]) st (w1.setCell ⟨w.heap.size + 1, 0, none⟩ v') := by
  have hz := h.sz
  have hlt := fun b (hb : C.O W b) => C.ltO h.i hb
  have hs := grownBy_setCell' w1 (w.heap.size + 1) v'
  have al : ∀ b, b < W.heap.size → (W.alloc tmp).heap[b]? = W.heap[b]? := fun b hb => ((Below.refl W.heap.size W).alloc (Nat.le_refl _) tmp).block b hb
  have blk : ∀ b, b < W.heap.size → some b ≠ v.ownBlock → b ≠ w.heap.size + 1 → (w1.setCell ⟨w.heap.size + 1, 0, none⟩ v').heap[b]? = W.heap[b]? := fun b h1 h2 h3 => by
    have h4 : b < (W.alloc tmp).heap.size := by simp; omega
    rw [hs.block b (Nat.lt_of_lt_of_le h4 hg.size) (fun e => h3 (by simpa using e)), hg.block b h4 h2, al b h1]
  have own : ∀ b, C.O W b → (w1.setCell ⟨w.heap.size + 1, 0, none⟩ v').heap[b]? = W.heap[b]? := fun b hb => blk b (hlt b hb).2 (fun e => (hno b e.symm).2 hb) (fun e => h.nl (e ▸ hb))
  have old : ∀ b, b < w.heap.size → (w1.setCell ⟨w.heap.size + 1, 0, none⟩ v').heap[b]? = W.heap[b]? := fun b hb => blk b (by omega) (fun e => by have := (hno b e.symm).1; omega) (by omega)
  have hsz : W.heap.size ≤ (w1.setCell ⟨w.heap.size + 1, 0, none⟩ v').heap.size := Nat.le_trans (Nat.le_trans (by simp) hg.size) hs.size
  obtain ⟨k1, k2⟩ := C.keep h.i hsz (fun b hb => old b (by have := h.low; omega)) own
  have al' := (Below.refl W.heap.size W).alloc (Nat.le_refl _) tmp
  refine ⟨k1, (blk _ (by omega) (fun e => by have := (hno _ e.symm).1; omega) (by omega)).trans h.bt, ⟨v', hb2, hr2, fun b hb e => ?_⟩, fun e => h.nt (k2 _ e), fun e => h.nl (k2 _ e),
    (C.next h.kept h.i h.low (hs.os.trans (hg.os.trans al'.os)) (hs.tape.trans (hg.tape.trans al'.tape)) (hs.output.trans (hg.output.trans al'.output)) hsz own old).1, h.low, h.his, Nat.le_trans hz hsz, fun z hz' => ?_⟩
  · have e' := k2 b e
    rcases hat with e1 | e1
    · exact (hno b (e1 ▸ hb)).2 e'
    · rw [e1] at hb
      have := (hlt b e').2
      simp at hb
      omega
  · rcases List.mem_append.1 hz' with h1 | h1
    · exact h.small z h1
    · rw [List.mem_singleton.1 h1]; exact hy
end
theorem partsF_any (s : ByteArray) (w : World) : Calls Tryz.prog 121 #[.string s] w fun e w' => e = .returned (.func (.func 140) #[] #[.pointer (some ⟨w.heap.size, 0, none⟩)]) ∧ w' = w.alloc (.cells #[.string s] 9) := by
  go_enter Tryz.func121, Tryz.ntmps121
  go_wp2_with fail
  go_ret
  exact ⟨rfl, rfl⟩
theorem info9 : (Tryz.prog.info? 9).map (fun i => (i.zero, i.size, i.bytes)) = some (some (.string ⟨#[]⟩), 1, 16) := by kernel_rfl
def NmI {σ : Type} {g : Nat} {c1 c2 : Value} (C : Clo σ g c1 c2) (n : Nat) (st : σ) (s : ByteArray) (w : World) (pre : List (Tx lim)) (W : World) : Prop :=
  pre.length ≤ (parts s).length ∧ NmJ C (n + ((parts s).length - pre.length)) w (C.pts st (pre.map fun x => x.1)).1 (C.pts st (pre.map fun x => x.1)).2 W
/-- What turner.name leaves. -/
def NmPost {σ : Type} {g : Nat} {c1 c2 : Value} (C : Clo σ g c1 c2) (n : Nat) (st : σ) (s : ByteArray) (w : World) (e : Ending) (w' : World) : Prop := e = .returned (.string (C.nm st s).1) ∧ C.I n (C.nm st s).2 w' ∧ Kept C.O C.hi w w'
end Go.Proofs.YtciijpahjjoppaaGreat
end
section
namespace Go.Proofs.YtciijpahjjoppaaGreat
open Go.RowKit Go.Shelf Go.Deep
attribute [local go_sem] Oper.semAt_some

set_option maxRecDepth 100000 in
set_option maxHeartbeats 4000000 in
theorem name_50 {σ : Type} {c1 c2 : Value} (C : Clo σ 50 c1 c2) (n : Nat) (st : σ) (s : ByteArray) (w : World) (hI : C.I (n + (parts s).length) st w) (hs : s.size ≤ lim) :
    Calls Tryz.prog 86 #[.agg #[.func (.func 50) #[] #[c1, c2]], .string s] w (NmPost C n st s w) := by
  obtain ⟨i0, hi, hz0, hz1, hz2⟩ := info_parts info9
  have hlow : C.low ≤ w.heap.size := Nat.le_trans (C.hiI hI).1 (C.hiI hI).2
  have hhi : C.hi ≤ w.heap.size := (C.hiI hI).2
  have hL : (parts s).length ≤ 8388609 := by have := parts_len s; unfold lim at hs; omega
  have hM : lim ≤ maxLen := by decide
  obtain ⟨W0, hW0⟩ : ∃ W0, W0 = ((w.alloc (.cells #[.func (.func 50) #[] #[c1, c2]] 97)).alloc (.cells #[.slice none 0 0] 29)).alloc (.cells #[.string s] 9) := ⟨_, rfl⟩
  have z1 : (w.alloc (.cells #[.func (.func 50) #[] #[c1, c2]] 97)).heap.size = w.heap.size + 1 := by simp
  have z2 : ((w.alloc (.cells #[.func (.func 50) #[] #[c1, c2]] 97)).alloc (.cells #[.slice none 0 0] 29)).heap.size = w.heap.size + 2 := by simp
  have b0 : Below w.heap.size w W0 := by rw [hW0]; exact (((Below.refl _ w).alloc (Nat.le_refl _) _).alloc (by simp) _).alloc (by simp; omega) _
  have q0 : W0.heap.size = w.heap.size + 3 := by rw [hW0]; simp
  have bT : Boxed W0 w.heap.size 97 (.func (.func 50) #[] #[c1, c2]) := by rw [hW0]; exact ((Boxed.new w 97 _).alloc _).alloc _
  have bL : Boxed W0 (w.heap.size + 1) 29 (.slice none 0 0) := by
    have := (Boxed.new (w.alloc (.cells #[.func (.func 50) #[] #[c1, c2]] 97)) 29 (.slice none 0 0)).alloc (.cells #[.string s] 9)
    rw [z1] at this
    rw [hW0]
    exact this
  have bS : Boxed W0 (w.heap.size + 2) 9 (.string s) := by
    have := Boxed.new ((w.alloc (.cells #[.func (.func 50) #[] #[c1, c2]] 97)).alloc (.cells #[.slice none 0 0] 29)) 9 (.string s)
    rw [z2] at this
    rw [hW0]
    exact this
  obtain ⟨k0, i00⟩ := C.below (Kept.refl C.O C.hi w) hI hlow b0
  have no : ∀ b, w.heap.size ≤ b → ¬ C.O W0 b := fun b hb e => by
    rcases k0.own b e with e | _
    · have := (C.ltO hI e).2; omega
    · obtain ⟨_, h2⟩ := C.keep hI b0.size (fun b hb => b0.block b (by omega)) (fun b hb => b0.block b (C.ltO hI hb).2)
      have := (C.ltO hI (h2 b e)).2
      omega
  have J0 : NmJ C (n + (parts s).length) w [] st W0 := ⟨i00, bT, ⟨_, bL, World.ownsRow_nil _ _ _ _, fun b hb => by simp [Value.ownBlock] at hb⟩, no _ (Nat.le_refl _), no _ (by omega), k0, hlow, hhi, by omega, by simp⟩
  have HJ0 := Lib.hid J0
  clear J0 no k0 i00 bT bL z1 z2 hI
  refine (callsIn_wide (n := 3)).1 ?_
  refine callsIn_of_wp_marks Tryz.func86 rfl trivial ?_ rfl
  simp only [Tryz.ntmps86, List.size_toArray, List.length_cons, List.length_nil, Nat.reduceAdd, Nat.reduceSub, Array.replicate_succ, Array.replicate_zero, List.push_toArray, List.append_toArray, List.nil_append, List.cons_append]
  gi_wp2_with (refine ⟨trivial, ?_⟩; gi_at_call 121; refine (callsIn_wide.2 (partsF_any s _)).mono ?_; rintro e w' ⟨rfl, rfl⟩)
  rw [← hW0]
  refine wpIn_rangeFunc_ownG rfl (by omega) (gf := 140) (lb := #[.pointer (some ⟨w.heap.size + 2, 0, none⟩)]) rfl trivial (enters_of Tryz.func140 (by kernel_rfl) rfl)
    (parts_stops lim hM _ (by omega) (w.heap.size + 2) s hs (fun _ _ => True) W0 bS.cell) (fun _ _ => trivial) (fun _ _ _ _ _ _ _ _ => trivial) (Below.refl _ _) (fun _ => rfl)
    (NmI C n st s w)
    (fun _ _ _ => False)
    (fun (pre : List (Tx lim)) A B row hsx hg hr => ⟨hsx.1, hsx.2.same ⟨row, hg, fun r e => ⟨by have := (hr r e).1; omega, (hr r e).2⟩⟩⟩)
    (fun _ _ _ _ _ hs _ _ => hs)
    ⟨Nat.zero_le _, HJ0.out⟩
    (fun x => { tmps := #[.agg #[.func (.func 50) #[] #[c1, c2]], .string s, .pointer (some ⟨w.heap.size, 0, none⟩), undef, .string ⟨#[]⟩, .pointer (some ⟨w.heap.size + 1, 0, none⟩), .string x.1, .string s, .func (.func 140) #[] #[.pointer (some ⟨w.heap.size + 2, 0, none⟩)], .string x.1, undef, undef, undef, undef, undef, undef, undef, undef, undef, undef, undef, undef], defers := [] }) ?assign ?body ?done ?stop
  case assign =>
    intro l x W K hK
    gi_wp2
    exact hK
  case body =>
    rintro l pre x W ⟨hpl, hJ⟩ hlt
    have hkf : ∀ A B, Kept C.O C.hi A B → KeepsFrom W0.heap.size A B := fun A B h => ⟨h.size, fun b o h1 h2 h3 => h.others b o (by omega) h2 h3⟩
    have HKF := Lib.hid hkf
    have bt := hJ.bt.cell
    have hlen : (C.pts st (pre.map fun x => x.1)).1.length = pre.length := by rw [C.pts_len, List.length_map]
    have hsn := C.pts_snoc st (pre.map fun x => x.1) x.1
    have hbud : n + ((parts s).length - pre.length) = n + ((parts s).length - (pre.length + 1)) + 1 := by omega
    rw [hbud] at hJ
    have HSN := Lib.hid hsn
    have HLEN := Lib.hid hlen
    have hxl := x.2
    clear hkf hsn hlen hbud
    generalize hys : (C.pts st (pre.map fun x => x.1)).1 = ys at *
    generalize hst : (C.pts st (pre.map fun x => x.1)).2 = s1 at *
    have HYS := Lib.hid hys
    have HST := Lib.hid hst
    clear hys hst
    generalize hB' : n + ((parts s).length - (pre.length + 1)) = bud at *
    have HBUD := Lib.hid hB'
    clear hB'
    have hle := Lib.hid (C.pts_le hJ.i hxl)
    by_cases hx0 : x.1.size = 0
    · have hpt : C.pt s1 x.1 = (x.1, s1) := by unfold Clo.pt; rw [if_pos hx0]
      have hxe : x.1.toList = [] := by rw [ba_empty _ hx0, ByteArray.toList_eq]
      have hxf : (!x.1.toList.isEmpty) = false := by rw [hxe]; rfl
      have HPT := Lib.hid hpt
      have HJ := Lib.hid hJ.down
      obtain ⟨v, hv, hrow, hno⟩ := hJ.row
      have hc := hv.cell
      have hsz := hJ.sz
      have HNO := Lib.hid (show ∀ b, v.ownBlock = some b → w.heap.size + 1 ≤ b ∧ ¬ C.O W b from fun b hb => ⟨(rowBlock hrow hb).1, hno b hb⟩)
      clear hpt hJ hno
      gi_wp2_with (gi_at_builtin; refine wpListIn_append_own_at _ rfl _ _ 29 rfl (w.heap.size + 1) 9 i0 (.string ⟨#[]⟩) 1 16 Tryz.underlying29 hi hz0 hz1 hz2 rfl (by decide) _ _ _ rfl (hrow.alloc _) ⟨W.heap.size, 0, none⟩ 1 1 [.string x.1] rfl rfl (cell_one_new _ _ _) (by simp [Value.oneCell']) (by rw [HLEN.out]; unfold maxLen; omega) (by rw [HLEN.out]; omega) (by simp; omega) ?_; intro v' w1 hown' hgrow _ hat; obtain ⟨g', cap', rfl⟩ := ownsRow_succ hown'; obtain ⟨hv1, hv2, hr2, hk2, hb2⟩ := hv.appended (by decide) hrow (by omega) (by omega) hown' hgrow; have hc1 := hv1.cell; have hf1 := hv1.frozen)
      refine ⟨hk2.from _, trivial, by simp; omega, ?_⟩
      rw [List.map_append, List.map_singleton, HSN.out, HPT.out, List.length_append, List.length_singleton, HBUD.out]
      exact HJ.out.appended HNO.out (by have := hle.out; rw [HPT.out] at this; exact this) hgrow hat hv2 (by simpa using hr2)
    · have hpt : C.pt s1 x.1 = (C.out s1 x.1, C.step s1 x.1) := by unfold Clo.pt; rw [if_neg hx0]
      have hxe : ¬ x.1.toList = [] := toList_ne _ (by omega)
      have hxf : (!x.1.toList.isEmpty) = true := by simpa using hxe
      have HPT := Lib.hid hpt
      have HJ := Lib.hid hJ
      have hcall := Lib.hid (C.call bud s1 W x.1 hJ.i hx0 hxl)
      clear hpt hJ
      gi_wp2_with (first
        | (refine ⟨trivial, ?_⟩; gi_at_call 50; refine (CallsIn.inRound l (callsIn_wide.2 hcall.out)).mono ?_; rintro e W2 ⟨rfl, hi2, hk2⟩; have HJ2 := Lib.hid (HJ.out.called hk2 hi2); have HKF2 := Lib.hid (HKF.out _ _ hk2); clear hi2 hk2; obtain ⟨v, hv, hrow, hno⟩ := HJ2.out.row; have hc := hv.cell; have hsz := HJ2.out.sz; have HNO := Lib.hid (show ∀ b, v.ownBlock = some b → w.heap.size + 1 ≤ b ∧ ¬ C.O W2 b from fun b hb => ⟨(rowBlock hrow hb).1, hno b hb⟩); clear hno bt)
        | (gi_at_builtin; refine wpListIn_append_own_at _ rfl _ _ 29 rfl (w.heap.size + 1) 9 i0 (.string ⟨#[]⟩) 1 16 Tryz.underlying29 hi hz0 hz1 hz2 rfl (by decide) _ _ _ rfl (hrow.alloc _) ⟨W2.heap.size, 0, none⟩ 1 1 [.string (C.out s1 x.1)] rfl rfl (cell_one_new _ _ _) (by simp [Value.oneCell']) (by rw [HLEN.out]; unfold maxLen; omega) (by rw [HLEN.out]; omega) (by simp; omega) ?_; intro v' w1 hown' hgrow _ hat; obtain ⟨g', cap', rfl⟩ := ownsRow_succ hown'; obtain ⟨hv1, hv2, hr2, hk2, hb2⟩ := hv.appended (by decide) hrow (by omega) (by omega) hown' hgrow; have hc1 := hv1.cell; have hf1 := hv1.frozen))
      refine ⟨HKF2.out.trans (hk2.from _), trivial, by simp; omega, ?_⟩
      rw [List.map_append, List.map_singleton, HSN.out, HPT.out, List.length_append, List.length_singleton, HBUD.out]
      exact HJ2.out.appended HNO.out (by have := hle.out; rw [HPT.out] at this; exact this) hgrow hat hv2 (by simpa using hr2)
  case done =>
    rintro D xs W hD hxs ⟨hpl, hJ⟩ hK
    rw [hxs] at hJ
    have hxl : xs.length = (parts s).length := by rw [← hxs, List.length_map]
    rw [hxl, Nat.sub_self, Nat.add_zero] at hJ
    obtain ⟨v, hv, hrow, hno⟩ := hJ.row
    have hc := hv.cell
    have hlen : (C.pts st (parts s)).1.length = (parts s).length := C.pts_len _ _
    have hpos : 0 < (C.pts st (parts s)).1.length := by rw [hlen]; exact List.length_pos_iff.2 (parts_ne s)
    have hall := hJ.small
    have HJ := Lib.hid hJ
    have HNM := Lib.hid (show C.nm st s = (joinD (C.pts st (parts s)).1, (C.pts st (parts s)).2) from rfl)
    generalize hys : (C.pts st (parts s)).1 = ys at *
    generalize hst : (C.pts st (parts s)).2 = s1 at *
    obtain ⟨gb, cap, cur, rfl, hgb, hgc, hcap, hcm, hcs, hct⟩ : ∃ gb cap cur, v = .slice (some ⟨gb, 0, none⟩) ys.length cap ∧ w.heap.size + 1 ≤ gb ∧ W.heap[gb]? = some (.cells cur 9 (0, 0)) ∧ ys.length ≤ cap ∧ cap ≤ maxLen ∧ cur.size = cap * 1 ∧ cur.toList.take (ys.length * 1) = ys.map Value.string := by
      rcases hrow.2 with ⟨_, h4⟩ | ⟨q, cap, cur, h1, h2, h3, h4, h5, h6, h7⟩
      · omega
      · exact ⟨q, cap, cur, h1, h2, h3, h4, h5, h6, h7⟩
    have hcells : ∀ (j : Nat) (x : ByteArray), ys[j]? = some x → W.cell? ⟨gb, 0 + j, none⟩ = some (.string x) := by
      intro j x hx
      have hj := (List.getElem?_eq_some_iff.1 hx).1
      have e1 : cur.toList[j]? = (ys.map Value.string)[j]? := by rw [← hct, List.getElem?_take]; simp [hj]
      have e2 : cur[j]? = some (.string x) := by
        rw [List.getElem?_map, hx] at e1
        simpa using e1
      rw [Nat.zero_add]
      simp [World.cell?, hgc, e2]
    have hjl : (Lib.join (ys.map (·.data.toList)) [36]).length ≤ 140737488355328 := by
      have h1 := join_len (ys.map (·.data.toList)) lim (fun z hz => by
        obtain ⟨y, hy, rfl⟩ := List.mem_map.1 hz
        exact hall y hy)
      rw [List.length_map] at h1
      have h2 : ys.length * (lim + 1) ≤ 8388609 * (lim + 1) := Nat.mul_le_mul_right _ (by omega)
      have h3 : 8388609 * (lim + 1) ≤ 140737488355328 := by decide
      omega
    have hjoin := Lib.hid (Tryz.strings_Join gb 0 cap ys ⟨#[36]⟩ W hcells (heap_lt hgc) (by omega) hcap hjl)
    clear hcells hjl hall hct hgc hrow hys hst hxs hlen
    gi_wp2_with (refine ⟨trivial, ?_⟩; gi_at_call 122; refine (callsIn_wide.2 hjoin.out).mono ?_; rintro e W3 ⟨rfl, b3⟩)
    obtain ⟨k3, i3⟩ := C.below HJ.out.kept HJ.out.i HJ.out.low b3
    have hK3 : W3.heap[D]? = some (.deferred (some [])) := (b3.block D (heap_lt hK)).trans hK
    have HK3 := Lib.hid k3
    have HI3 := Lib.hid i3
    clear k3 i3 b3
    gi_wp2
    refine ⟨by simp, .inl ⟨_, _, rfl, run_takeDeferred hK3, ?_⟩⟩
    refine ⟨_, results_tmp rfl _ _ _, ?_⟩
    have gD := grownBy_putObj' W3 D (.deferred none)
    have nD : ∀ b, C.O W3 b → b ≠ D := fun b hb e => by
      subst e
      obtain ⟨o, ho, hc⟩ := C.cellsO HI3.out hb (by omega)
      rw [hK3] at ho
      cases ho
      cases hc
    obtain ⟨k4, i4⟩ := C.next HK3.out HI3.out hlow gD.os gD.tape gD.output gD.size (fun b hb => gD.block b (C.ltO HI3.out hb).2 (fun e => nD b hb (by simpa using e))) (fun b hb => gD.block b (Nat.lt_of_lt_of_le hb HK3.out.size) (fun e => absurd (show b = D by simpa using e) (by omega)))
    refine ⟨by rw [HNM.out]; rfl, by rw [HNM.out]; exact i4, k4⟩
  case stop =>
    rintro D c pre W _ _ h _
    exact h.elim

set_option maxRecDepth 100000 in
set_option maxHeartbeats 4000000 in
theorem name_59 {σ : Type} {c1 c2 : Value} (C : Clo σ 59 c1 c2) (n : Nat) (st : σ) (s : ByteArray) (w : World) (hI : C.I (n + (parts s).length) st w) (hs : s.size ≤ lim) :
    Calls Tryz.prog 86 #[.agg #[.func (.func 59) #[] #[c1, c2]], .string s] w (NmPost C n st s w) := by
  obtain ⟨i0, hi, hz0, hz1, hz2⟩ := info_parts info9
  have hlow : C.low ≤ w.heap.size := Nat.le_trans (C.hiI hI).1 (C.hiI hI).2
  have hhi : C.hi ≤ w.heap.size := (C.hiI hI).2
  have hL : (parts s).length ≤ 8388609 := by have := parts_len s; unfold lim at hs; omega
  have hM : lim ≤ maxLen := by decide
  obtain ⟨W0, hW0⟩ : ∃ W0, W0 = ((w.alloc (.cells #[.func (.func 59) #[] #[c1, c2]] 97)).alloc (.cells #[.slice none 0 0] 29)).alloc (.cells #[.string s] 9) := ⟨_, rfl⟩
  have z1 : (w.alloc (.cells #[.func (.func 59) #[] #[c1, c2]] 97)).heap.size = w.heap.size + 1 := by simp
  have z2 : ((w.alloc (.cells #[.func (.func 59) #[] #[c1, c2]] 97)).alloc (.cells #[.slice none 0 0] 29)).heap.size = w.heap.size + 2 := by simp
  have b0 : Below w.heap.size w W0 := by rw [hW0]; exact (((Below.refl _ w).alloc (Nat.le_refl _) _).alloc (by simp) _).alloc (by simp; omega) _
  have q0 : W0.heap.size = w.heap.size + 3 := by rw [hW0]; simp
  have bT : Boxed W0 w.heap.size 97 (.func (.func 59) #[] #[c1, c2]) := by rw [hW0]; exact ((Boxed.new w 97 _).alloc _).alloc _
  have bL : Boxed W0 (w.heap.size + 1) 29 (.slice none 0 0) := by
    have := (Boxed.new (w.alloc (.cells #[.func (.func 59) #[] #[c1, c2]] 97)) 29 (.slice none 0 0)).alloc (.cells #[.string s] 9)
    rw [z1] at this
    rw [hW0]
    exact this
  have bS : Boxed W0 (w.heap.size + 2) 9 (.string s) := by
    have := Boxed.new ((w.alloc (.cells #[.func (.func 59) #[] #[c1, c2]] 97)).alloc (.cells #[.slice none 0 0] 29)) 9 (.string s)
    rw [z2] at this
    rw [hW0]
    exact this
  obtain ⟨k0, i00⟩ := C.below (Kept.refl C.O C.hi w) hI hlow b0
  have no : ∀ b, w.heap.size ≤ b → ¬ C.O W0 b := fun b hb e => by
    rcases k0.own b e with e | _
    · have := (C.ltO hI e).2; omega
    · obtain ⟨_, h2⟩ := C.keep hI b0.size (fun b hb => b0.block b (by omega)) (fun b hb => b0.block b (C.ltO hI hb).2)
      have := (C.ltO hI (h2 b e)).2
      omega
  have J0 : NmJ C (n + (parts s).length) w [] st W0 := ⟨i00, bT, ⟨_, bL, World.ownsRow_nil _ _ _ _, fun b hb => by simp [Value.ownBlock] at hb⟩, no _ (Nat.le_refl _), no _ (by omega), k0, hlow, hhi, by omega, by simp⟩
  have HJ0 := Lib.hid J0
  clear J0 no k0 i00 bT bL z1 z2 hI
  refine (callsIn_wide (n := 3)).1 ?_
  refine callsIn_of_wp_marks Tryz.func86 rfl trivial ?_ rfl
  simp only [Tryz.ntmps86, List.size_toArray, List.length_cons, List.length_nil, Nat.reduceAdd, Nat.reduceSub, Array.replicate_succ, Array.replicate_zero, List.push_toArray, List.append_toArray, List.nil_append, List.cons_append]
  gi_wp2_with (refine ⟨trivial, ?_⟩; gi_at_call 121; refine (callsIn_wide.2 (partsF_any s _)).mono ?_; rintro e w' ⟨rfl, rfl⟩)
  rw [← hW0]
  refine wpIn_rangeFunc_ownG rfl (by omega) (gf := 140) (lb := #[.pointer (some ⟨w.heap.size + 2, 0, none⟩)]) rfl trivial (enters_of Tryz.func140 (by kernel_rfl) rfl)
    (parts_stops lim hM _ (by omega) (w.heap.size + 2) s hs (fun _ _ => True) W0 bS.cell) (fun _ _ => trivial) (fun _ _ _ _ _ _ _ _ => trivial) (Below.refl _ _) (fun _ => rfl)
    (NmI C n st s w)
    (fun _ _ _ => False)
    (fun (pre : List (Tx lim)) A B row hsx hg hr => ⟨hsx.1, hsx.2.same ⟨row, hg, fun r e => ⟨by have := (hr r e).1; omega, (hr r e).2⟩⟩⟩)
    (fun _ _ _ _ _ hs _ _ => hs)
    ⟨Nat.zero_le _, HJ0.out⟩
    (fun x => { tmps := #[.agg #[.func (.func 59) #[] #[c1, c2]], .string s, .pointer (some ⟨w.heap.size, 0, none⟩), undef, .string ⟨#[]⟩, .pointer (some ⟨w.heap.size + 1, 0, none⟩), .string x.1, .string s, .func (.func 140) #[] #[.pointer (some ⟨w.heap.size + 2, 0, none⟩)], .string x.1, undef, undef, undef, undef, undef, undef, undef, undef, undef, undef, undef, undef], defers := [] }) ?assign ?body ?done ?stop
  case assign =>
    intro l x W K hK
    gi_wp2
    exact hK
  case body =>
    rintro l pre x W ⟨hpl, hJ⟩ hlt
    have hkf : ∀ A B, Kept C.O C.hi A B → KeepsFrom W0.heap.size A B := fun A B h => ⟨h.size, fun b o h1 h2 h3 => h.others b o (by omega) h2 h3⟩
    have HKF := Lib.hid hkf
    have bt := hJ.bt.cell
    have hlen : (C.pts st (pre.map fun x => x.1)).1.length = pre.length := by rw [C.pts_len, List.length_map]
    have hsn := C.pts_snoc st (pre.map fun x => x.1) x.1
    have hbud : n + ((parts s).length - pre.length) = n + ((parts s).length - (pre.length + 1)) + 1 := by omega
    rw [hbud] at hJ
    have HSN := Lib.hid hsn
    have HLEN := Lib.hid hlen
    have hxl := x.2
    clear hkf hsn hlen hbud
    generalize hys : (C.pts st (pre.map fun x => x.1)).1 = ys at *
    generalize hst : (C.pts st (pre.map fun x => x.1)).2 = s1 at *
    have HYS := Lib.hid hys
    have HST := Lib.hid hst
    clear hys hst
    generalize hB' : n + ((parts s).length - (pre.length + 1)) = bud at *
    have HBUD := Lib.hid hB'
    clear hB'
    have hle := Lib.hid (C.pts_le hJ.i hxl)
    by_cases hx0 : x.1.size = 0
    · have hpt : C.pt s1 x.1 = (x.1, s1) := by unfold Clo.pt; rw [if_pos hx0]
      have hxe : x.1.toList = [] := by rw [ba_empty _ hx0, ByteArray.toList_eq]
      have hxf : (!x.1.toList.isEmpty) = false := by rw [hxe]; rfl
      have HPT := Lib.hid hpt
      have HJ := Lib.hid hJ.down
      obtain ⟨v, hv, hrow, hno⟩ := hJ.row
      have hc := hv.cell
      have hsz := hJ.sz
      have HNO := Lib.hid (show ∀ b, v.ownBlock = some b → w.heap.size + 1 ≤ b ∧ ¬ C.O W b from fun b hb => ⟨(rowBlock hrow hb).1, hno b hb⟩)
      clear hpt hJ hno
      gi_wp2_with (gi_at_builtin; refine wpListIn_append_own_at _ rfl _ _ 29 rfl (w.heap.size + 1) 9 i0 (.string ⟨#[]⟩) 1 16 Tryz.underlying29 hi hz0 hz1 hz2 rfl (by decide) _ _ _ rfl (hrow.alloc _) ⟨W.heap.size, 0, none⟩ 1 1 [.string x.1] rfl rfl (cell_one_new _ _ _) (by simp [Value.oneCell']) (by rw [HLEN.out]; unfold maxLen; omega) (by rw [HLEN.out]; omega) (by simp; omega) ?_; intro v' w1 hown' hgrow _ hat; obtain ⟨g', cap', rfl⟩ := ownsRow_succ hown'; obtain ⟨hv1, hv2, hr2, hk2, hb2⟩ := hv.appended (by decide) hrow (by omega) (by omega) hown' hgrow; have hc1 := hv1.cell; have hf1 := hv1.frozen)
      refine ⟨hk2.from _, trivial, by simp; omega, ?_⟩
      rw [List.map_append, List.map_singleton, HSN.out, HPT.out, List.length_append, List.length_singleton, HBUD.out]
      exact HJ.out.appended HNO.out (by have := hle.out; rw [HPT.out] at this; exact this) hgrow hat hv2 (by simpa using hr2)
    · have hpt : C.pt s1 x.1 = (C.out s1 x.1, C.step s1 x.1) := by unfold Clo.pt; rw [if_neg hx0]
      have hxe : ¬ x.1.toList = [] := toList_ne _ (by omega)
      have hxf : (!x.1.toList.isEmpty) = true := by simpa using hxe
      have HPT := Lib.hid hpt
      have HJ := Lib.hid hJ
      have hcall := Lib.hid (C.call bud s1 W x.1 hJ.i hx0 hxl)
      clear hpt hJ
      gi_wp2_with (first
        | (refine ⟨trivial, ?_⟩; gi_at_call 59; refine (CallsIn.inRound l (callsIn_wide.2 hcall.out)).mono ?_; rintro e W2 ⟨rfl, hi2, hk2⟩; have HJ2 := Lib.hid (HJ.out.called hk2 hi2); have HKF2 := Lib.hid (HKF.out _ _ hk2); clear hi2 hk2; obtain ⟨v, hv, hrow, hno⟩ := HJ2.out.row; have hc := hv.cell; have hsz := HJ2.out.sz; have HNO := Lib.hid (show ∀ b, v.ownBlock = some b → w.heap.size + 1 ≤ b ∧ ¬ C.O W2 b from fun b hb => ⟨(rowBlock hrow hb).1, hno b hb⟩); clear hno bt)
        | (gi_at_builtin; refine wpListIn_append_own_at _ rfl _ _ 29 rfl (w.heap.size + 1) 9 i0 (.string ⟨#[]⟩) 1 16 Tryz.underlying29 hi hz0 hz1 hz2 rfl (by decide) _ _ _ rfl (hrow.alloc _) ⟨W2.heap.size, 0, none⟩ 1 1 [.string (C.out s1 x.1)] rfl rfl (cell_one_new _ _ _) (by simp [Value.oneCell']) (by rw [HLEN.out]; unfold maxLen; omega) (by rw [HLEN.out]; omega) (by simp; omega) ?_; intro v' w1 hown' hgrow _ hat; obtain ⟨g', cap', rfl⟩ := ownsRow_succ hown'; obtain ⟨hv1, hv2, hr2, hk2, hb2⟩ := hv.appended (by decide) hrow (by omega) (by omega) hown' hgrow; have hc1 := hv1.cell; have hf1 := hv1.frozen))
      refine ⟨HKF2.out.trans (hk2.from _), trivial, by simp; omega, ?_⟩
      rw [List.map_append, List.map_singleton, HSN.out, HPT.out, List.length_append, List.length_singleton, HBUD.out]
      exact HJ2.out.appended HNO.out (by have := hle.out; rw [HPT.out] at this; exact this) hgrow hat hv2 (by simpa using hr2)
  case done =>
    rintro D xs W hD hxs ⟨hpl, hJ⟩ hK
    rw [hxs] at hJ
    have hxl : xs.length = (parts s).length := by rw [← hxs, List.length_map]
    rw [hxl, Nat.sub_self, Nat.add_zero] at hJ
    obtain ⟨v, hv, hrow, hno⟩ := hJ.row
    have hc := hv.cell
    have hlen : (C.pts st (parts s)).1.length = (parts s).length := C.pts_len _ _
    have hpos : 0 < (C.pts st (parts s)).1.length := by rw [hlen]; exact List.length_pos_iff.2 (parts_ne s)
    have hall := hJ.small
    have HJ := Lib.hid hJ
    have HNM := Lib.hid (show C.nm st s = (joinD (C.pts st (parts s)).1, (C.pts st (parts s)).2) from rfl)
    generalize hys : (C.pts st (parts s)).1 = ys at *
    generalize hst : (C.pts st (parts s)).2 = s1 at *
    obtain ⟨gb, cap, cur, rfl, hgb, hgc, hcap, hcm, hcs, hct⟩ : ∃ gb cap cur, v = .slice (some ⟨gb, 0, none⟩) ys.length cap ∧ w.heap.size + 1 ≤ gb ∧ W.heap[gb]? = some (.cells cur 9 (0, 0)) ∧ ys.length ≤ cap ∧ cap ≤ maxLen ∧ cur.size = cap * 1 ∧ cur.toList.take (ys.length * 1) = ys.map Value.string := by
      rcases hrow.2 with ⟨_, h4⟩ | ⟨q, cap, cur, h1, h2, h3, h4, h5, h6, h7⟩
      · omega
      · exact ⟨q, cap, cur, h1, h2, h3, h4, h5, h6, h7⟩
    have hcells : ∀ (j : Nat) (x : ByteArray), ys[j]? = some x → W.cell? ⟨gb, 0 + j, none⟩ = some (.string x) := by
      intro j x hx
      have hj := (List.getElem?_eq_some_iff.1 hx).1
      have e1 : cur.toList[j]? = (ys.map Value.string)[j]? := by rw [← hct, List.getElem?_take]; simp [hj]
      have e2 : cur[j]? = some (.string x) := by
        rw [List.getElem?_map, hx] at e1
        simpa using e1
      rw [Nat.zero_add]
      simp [World.cell?, hgc, e2]
    have hjl : (Lib.join (ys.map (·.data.toList)) [36]).length ≤ 140737488355328 := by
      have h1 := join_len (ys.map (·.data.toList)) lim (fun z hz => by
        obtain ⟨y, hy, rfl⟩ := List.mem_map.1 hz
        exact hall y hy)
      rw [List.length_map] at h1
      have h2 : ys.length * (lim + 1) ≤ 8388609 * (lim + 1) := Nat.mul_le_mul_right _ (by omega)
      have h3 : 8388609 * (lim + 1) ≤ 140737488355328 := by decide
      omega
    have hjoin := Lib.hid (Tryz.strings_Join gb 0 cap ys ⟨#[36]⟩ W hcells (heap_lt hgc) (by omega) hcap hjl)
    clear hcells hjl hall hct hgc hrow hys hst hxs hlen
    gi_wp2_with (refine ⟨trivial, ?_⟩; gi_at_call 122; refine (callsIn_wide.2 hjoin.out).mono ?_; rintro e W3 ⟨rfl, b3⟩)
    obtain ⟨k3, i3⟩ := C.below HJ.out.kept HJ.out.i HJ.out.low b3
    have hK3 : W3.heap[D]? = some (.deferred (some [])) := (b3.block D (heap_lt hK)).trans hK
    have HK3 := Lib.hid k3
    have HI3 := Lib.hid i3
    clear k3 i3 b3
    gi_wp2
    refine ⟨by simp, .inl ⟨_, _, rfl, run_takeDeferred hK3, ?_⟩⟩
    refine ⟨_, results_tmp rfl _ _ _, ?_⟩
    have gD := grownBy_putObj' W3 D (.deferred none)
    have nD : ∀ b, C.O W3 b → b ≠ D := fun b hb e => by
      subst e
      obtain ⟨o, ho, hc⟩ := C.cellsO HI3.out hb (by omega)
      rw [hK3] at ho
      cases ho
      cases hc
    obtain ⟨k4, i4⟩ := C.next HK3.out HI3.out hlow gD.os gD.tape gD.output gD.size (fun b hb => gD.block b (C.ltO HI3.out hb).2 (fun e => nD b hb (by simpa using e))) (fun b hb => gD.block b (Nat.lt_of_lt_of_le hb HK3.out.size) (fun e => absurd (show b = D by simpa using e) (by omega)))
    refine ⟨by rw [HNM.out]; rfl, by rw [HNM.out]; exact i4, k4⟩
  case stop =>
    rintro D c pre W _ _ h _
    exact h.elim
end Go.Proofs.YtciijpahjjoppaaGreat
end
section
namespace Go.Proofs.YtciijpahjjoppaaGreat
open Go.RowKit Go.Shelf Go.Deep Go.Maps

def keyL (s : ByteArray) : Lit := .string s.data.toList
theorem keyL_inj {a b : ByteArray} (h : keyL a = keyL b) : a = b := by
  unfold keyL at h
  exact ByteArray.ext (Array.ext' (Lit.string.inj h))
theorem sameKey_keyL (a b : ByteArray) : (keyL a).sameKey (keyL b) = (a.toList == b.toList) := by
  rw [Bool.eq_iff_iff, beq_iff]
  refine ⟨fun h => keyL_inj (WideAt.sameKey_eq h), fun h => ?_⟩
  subst h
  simp [keyL, Lit.sameKey]
def setD (l : List ByteArray) : DataW Unit := Maps.setOf (.agg []) (l.map keyL)
theorem setD_nil : setD [] = .map [] := rfl
theorem setD_snoc (l : List ByteArray) (x : ByteArray) : setD (l ++ [x]) = (setD l).put (keyL x) (.agg []) := by
  unfold setD
  rw [List.map_append, List.map_singleton, setOf_snoc]
theorem has_setD (l : List ByteArray) (s : ByteArray) : Maps.has (setD l) (keyL s) = isIn s l := by
  unfold setD isIn
  rw [has_setOf _ _ _ (fun y hy => by obtain ⟨_, _, rfl⟩ := List.mem_map.1 hy; trivial), List.any_map]
  congr 1
  funext y
  exact sameKey_keyL y s
theorem law9 : Keyed Tryz.prog 9 := string_keyed Tryz.underlying9
theorem zero93 (w : World) : (zeroValue 93).run Tryz.prog w = .ok (.agg #[]) w := by kernel_rfl
theorem under92 : Tryz.prog.underlying 92 = some (.map 9 93) := by kernel_rfl
theorem key9 {s : ByteArray} (hs : s.size ≤ maxLen) : keyOf Tryz.prog 9 (.string s) = some (keyL s) := WideMaps.keyOf_string_mk Tryz.underlying9 hs
abbrev SetAt (w : World) (B n : Nat) (D : DataW Unit) : Prop := w.ownsMap Tryz.prog 9 unitElem B n D
theorem ownsMap_same {H : Type} {P : Program} {k : TypeId} {R : Value → Option (DataW H × List MemPlace)} {b n : Nat} {D : DataW H} {w w' : World} (h : w.ownsMap P k R b n D) (hb : w'.heap[b]? = w.heap[b]?) : w'.ownsMap P k R b n D := by
  unfold World.ownsMap at *
  rw [hb]
  exact h

theorem map_not_cells {H : Type} {P : Program} {k : TypeId} {R : Value → Option (DataW H × List MemPlace)} {b n : Nat} {D : DataW H} {w : World} (h : w.ownsMap P k R b n D) {cs : Array Value} {t : TypeId} {fz : Nat × Nat} (hc : w.heap[b]? = some (.cells cs t fz)) : False := by
  unfold World.ownsMap at h
  obtain ⟨es, clock, h1, _⟩ := h
  rw [hc] at h1
  cases h1
structure NamesI (b0 n : Nat) (s : List ByteArray) (w : World) : Prop where
  sz : b0 + 4 ≤ w.heap.size
  len : s.length + n ≤ 3000000
  small : ∀ y ∈ s, y.size ≤ lim
  set : SetAt w (b0 + 1) s.length (setD s)
  bq : Boxed w (b0 + 2) 92 (.map (some (b0 + 1)))
  row : ∃ v, Boxed w b0 29 v ∧ w.ownsRow b0 9 1 v s.length (s.map Value.string)
def NamesO (b0 : Nat) (w : World) (b : Nat) : Prop := b = b0 ∨ b = b0 + 1 ∨ b = b0 + 2 ∨ ∃ v, Boxed w b0 29 v ∧ v.ownBlock = some b
theorem Boxed.uniq {w : World} {b : Nat} {t : TypeId} {v v' : Value} (h : Boxed w b t v) (h' : Boxed w b t v') : v = v' := by
  have e := h.symm.trans h'
  simpa using e
theorem NamesI.ltO {b0 n : Nat} {s : List ByteArray} {w : World} {b : Nat} (h : NamesI b0 n s w) (hb : NamesO b0 w b) : b0 ≤ b ∧ b < w.heap.size := by
  have hz := h.sz
  rcases hb with rfl | rfl | rfl | ⟨v, h1, h2⟩
  · omega
  · omega
  · omega
  · obtain ⟨v', h3, h4⟩ := h.row
    cases Boxed.uniq h1 h3
    have := rowBlock h4 h2
    exact ⟨this.1, this.2.1⟩
theorem NamesI.keep {b0 n : Nat} {s : List ByteArray} {w w' : World} (h : NamesI b0 n s w) (hs : w.heap.size ≤ w'.heap.size) (ho : ∀ b, NamesO b0 w b → w'.heap[b]? = w.heap[b]?) : NamesI b0 n s w' ∧ ∀ b, NamesO b0 w' b → NamesO b0 w b := by
  obtain ⟨v, h1, h2⟩ := h.row
  have e0 := ho b0 (.inl rfl)
  have e1 := ho _ (.inr (.inl rfl))
  have e2 := ho _ (.inr (.inr (.inl rfl)))
  refine ⟨⟨Nat.le_trans h.sz hs, h.len, h.small, ownsMap_same h.set e1, e2.trans h.bq, v, e0.trans h1, ownsRow_same h2 fun b hb => ho b (.inr (.inr (.inr ⟨v, h1, hb⟩)))⟩, fun b hb => ?_⟩
  rcases hb with rfl | rfl | rfl | ⟨u, h3, h4⟩
  · exact .inl rfl
  · exact .inr (.inl rfl)
  · exact .inr (.inr (.inl rfl))
  · exact .inr (.inr (.inr ⟨u, e0.symm.trans h3, h4⟩))
def addName (s : List ByteArray) (x : ByteArray) : List ByteArray := if isIn x s then s else s ++ [x]
theorem NamesI.cellsO {b0 n : Nat} {s : List ByteArray} {w : World} {b : Nat} (h : NamesI b0 n s w) (hb : NamesO b0 w b) (hi : b0 + 4 ≤ b) : ∃ o : Obj, w.heap[b]? = some o ∧ o.isCells = true := by
  rcases hb with rfl | rfl | rfl | ⟨v, h1, h2⟩
  · omega
  · omega
  · omega
  · obtain ⟨v', h3, h4⟩ := h.row
    cases Boxed.uniq h1 h3
    obtain ⟨_, _, cs, t, fz, e⟩ := rowBlock h4 h2
    exact ⟨_, e, rfl⟩
def NamesPost (b0 n : Nat) (s : List ByteArray) (x : ByteArray) (w : World) (e : Ending) (w' : World) : Prop := e = .returned (.string x) ∧ NamesI b0 n (addName s x) w' ∧ Kept (NamesO b0) (b0 + 4) w w'
theorem keptN_below {b0 n : Nat} {s : List ByteArray} {w w' : World} (h : NamesI b0 n s w) (hb : Below w.heap.size w w') : Kept (NamesO b0) (b0 + 4) w w' :=
  ⟨hb.os, hb.tape, hb.output, hb.size, fun b h1 _ => hb.block b h1, fun b hb' => .inl ((h.keep hb.size fun b hb' => hb.block b (h.ltO hb').2).2 b hb'), fun b _ _ h2 _ => (hb.block b (heap_lt h2)).trans h2⟩

theorem names1_end {b0 n : Nat} {s : List ByteArray} {w w2 w3 : World} {x : ByteArray} {v v' : Value} {E tmp : Obj} (h : NamesI b0 (n + 1) s w) (hx : x.size ≤ lim) (hin : isIn x s = false)
    (hv : Boxed (w.alloc E) b0 29 v) (hr : (w.alloc E).ownsRow b0 9 1 v s.length (s.map Value.string)) (ho : w2.ownsMap Tryz.prog 9 (unitElem (H := Unit)) (b0 + 1) (s.length + 1) ((setD s).put (keyL x) (.agg []))) (hg1 : (w.alloc E).grownBy w2 (some (b0 + 1)))
    (hg : (w2.alloc tmp).grownBy w3 v.ownBlock) (hat : v'.ownBlock = v.ownBlock ∨ v'.ownBlock = some (w2.alloc tmp).heap.size)
    (hb2 : Boxed (w3.setCell ⟨b0, 0, none⟩ v') b0 29 v') (hr2 : (w3.setCell ⟨b0, 0, none⟩ v').ownsRow b0 9 1 v' (s ++ [x]).length ((s ++ [x]).map Value.string)) :
    NamesI b0 n (addName s x) (w3.setCell ⟨b0, 0, none⟩ v') ∧ Kept (NamesO b0) (b0 + 4) w (w3.setCell ⟨b0, 0, none⟩ v') := by
  have hz := h.sz
  have al := (Below.refl w.heap.size w).alloc (Nat.le_refl _) E
  have al2 := (Below.refl w2.heap.size w2).alloc (Nat.le_refl _) tmp
  have hs := grownBy_setCell' w3 b0 v'
  have s1 : w.heap.size + 1 ≤ w2.heap.size := by have := hg1.size; simpa using this
  have s2 : w2.heap.size + 1 ≤ w3.heap.size := by have := hg.size; simpa using this
  have s3 : w3.heap.size ≤ (w3.setCell ⟨b0, 0, none⟩ v').heap.size := hs.size
  have hvw : Boxed w b0 29 v := (al.block b0 (by omega)).symm.trans hv
  have i1 := (h.keep al.size fun b hb => al.block b (h.ltO hb).2).1
  have blk : ∀ b, b < w.heap.size → b ≠ b0 → b ≠ b0 + 1 → some b ≠ v.ownBlock → (w3.setCell ⟨b0, 0, none⟩ v').heap[b]? = w.heap[b]? := fun b h1 h2 h3 h4 => by
    rw [hs.block b (by omega) (fun e => h2 (by simpa using e)), hg.block b (by simp; omega) h4, al2.block b (by omega), hg1.block b (by simp; omega) (fun e => h3 (by simpa using e)), al.block b h1]
  have nq : some (b0 + 2) ≠ v.ownBlock := i1.bq.not_row (by decide) hr
  have nm : some (b0 + 1) ≠ v.ownBlock := fun e => by
    obtain ⟨_, _, cs, t, fz, ec⟩ := rowBlock hr e.symm
    exact map_not_cells i1.set ec
  have hm : (w3.setCell ⟨b0, 0, none⟩ v').heap[b0 + 1]? = w2.heap[b0 + 1]? := by
    rw [hs.block _ (by omega) (fun e => by simp at e), hg.block _ (by simp; omega) nm, al2.block _ (by omega)]
  refine ⟨?_, ⟨hs.os.trans (hg.os.trans (al2.os.trans (hg1.os.trans al.os))), hs.tape.trans (hg.tape.trans (al2.tape.trans (hg1.tape.trans al.tape))), hs.output.trans (hg.output.trans (al2.output.trans (hg1.output.trans al.output))), by omega, fun b h1 h2 => blk b h1 (fun e => h2 (.inl e)) (fun e => h2 (.inr (.inl e))) (fun e => h2 (.inr (.inr (.inr ⟨v, hvw, e.symm⟩)))), fun b hb => ?_, fun b o h1 h2 h3 => ?_⟩⟩
  · unfold addName
    rw [hin]
    refine ⟨by omega, by have := h.len; simp; omega, fun y hy => ?_, ?_, (blk _ (by omega) (by omega) (by omega) nq).trans h.bq, v', hb2, hr2⟩
    · simp only [Bool.false_eq_true, if_false] at hy
      rcases List.mem_append.1 hy with hy | hy
      · exact h.small y hy
      · rw [List.mem_singleton.1 hy]; exact hx
    · simp only [Bool.false_eq_true, if_false]
      rw [setD_snoc, List.length_append, List.length_singleton]
      exact ownsMap_same ho hm
  · rcases hb with rfl | rfl | rfl | ⟨u, h3, h4⟩
    · exact .inl (.inl rfl)
    · exact .inl (.inr (.inl rfl))
    · exact .inl (.inr (.inr (.inl rfl)))
    · cases Boxed.uniq h3 hb2
      rcases hat with e | e
      · exact .inl (.inr (.inr (.inr ⟨v, hvw, e.symm.trans h4⟩)))
      · rw [e] at h4
        refine .inr ?_
        simp at h4
        omega
  · have hlt := heap_lt h2
    rw [blk b hlt (by omega) (by omega) (fun e => ?_)]
    · exact h2
    · obtain ⟨_, _, cs, t, fz, ec⟩ := rowBlock hr e.symm
      rw [al.block b hlt, h2] at ec
      cases ec
      cases h3
set_option maxRecDepth 100000 in
set_option maxHeartbeats 2000000 in
theorem names1_any (b0 n : Nat) (s : List ByteArray) (w : World) (x : ByteArray) (h : NamesI b0 (n + 1) s w) (hx : x.size ≤ lim) :
    Calls Tryz.prog 50 #[.string x, .pointer (some ⟨b0 + 2, 0, none⟩), .pointer (some ⟨b0, 0, none⟩)] w (NamesPost b0 n s x w) := by
  have hk := key9 (s := x) (Nat.le_trans hx (by decide))
  have HK := Lib.hid hk
  have HI := Lib.hid h
  have cq := h.bq.cell
  have hz := h.sz
  have hl := h.len
  clear h hk
  cases hin : isIn x s with
  | true =>
    have HS := Lib.hid (show Maps.has (setD s) (keyL x) = true by rw [has_setD, hin])
    have HN := Lib.hid hin
    clear hin
    go_enter Tryz.func50, Tryz.ntmps50
    go_wp2_with (first
      | (at_lookup; refine wpList_lookup_own_unit _ rfl _ _ 92 rfl 9 93 law9 under92 (zero93 _) (b0 + 1) _ _ rfl HI.out.set _ _ rfl HK.out ?_; rw [HS.out]))
    go_ret
    have b := (Below.refl w.heap.size w).alloc (Nat.le_refl _) (.cells #[] 93)
    refine ⟨rfl, ?_, keptN_below HI.out b⟩
    have hi := (HI.out.keep b.size fun b' hb' => b.block b' (HI.out.ltO hb').2).1
    unfold addName
    rw [HN.out]
    exact ⟨hi.sz, by have := hi.len; simp; omega, hi.small, hi.set, hi.bq, hi.row⟩
  | false =>
    have HS := Lib.hid (show Maps.has (setD s) (keyL x) = false by rw [has_setD, hin])
    have HN := Lib.hid hin
    clear hin
    have b := (Below.refl w.heap.size w).alloc (Nat.le_refl _) (.cells #[] 93)
    have HI1 := Lib.hid (HI.out.keep b.size fun b' hb' => b.block b' (HI.out.ltO hb').2).1
    have cq1 := HI1.out.bq.cell
    obtain ⟨v, hv0, hr0⟩ := HI1.out.row
    have HV := Lib.hid hv0
    have HR := Lib.hid hr0
    obtain ⟨i0, hi, hz0, hz1, hz2⟩ := info_parts info9
    clear hv0 hr0 b
    go_enter Tryz.func50, Tryz.ntmps50
    go_wp2_with (first
      | (at_lookup; refine wpList_lookup_own_unit _ rfl _ _ 92 rfl 9 93 law9 under92 (zero93 _) (b0 + 1) _ _ rfl HI.out.set _ _ rfl HK.out ?_; rw [HS.out])
      | (at_mapUpdate; refine wpList_mapUpdate_own _ rfl _ _ _ 92 rfl 9 93 law9 under92 (unitElem (H := Unit)) (b0 + 1) _ _ rfl HI1.out.set (by unfold maxLen; omega) _ _ _ rfl rfl HK.out _ [] unitElem_mk ?_; intro w2 hown1 hgrow1;
          have hv := HV.out.kept hgrow1 (by simp); have hrow := ownsRow_same HR.out (fun b' hb' => hgrow1.block b' (rowBlock HR.out hb').2.1 (fun e => by
            have e' : b' = b0 + 1 := by simpa using e
            obtain ⟨_, _, cs, t, fz, ec⟩ := rowBlock HR.out hb'
            rw [e'] at ec
            exact map_not_cells HI1.out.set ec)); have hc := hv.cell; have HO1 := Lib.hid hown1; have HG1 := Lib.hid hgrow1; clear hown1 hgrow1)
      | (at_builtin; refine wpList_append_own_at _ rfl _ _ 29 rfl b0 9 i0 (.string ⟨#[]⟩) 1 16 Tryz.underlying29 hi hz0 hz1 hz2 rfl (by decide) _ _ _ rfl (hrow.alloc _) ⟨w2.heap.size, 0, none⟩ 1 1 [.string x] rfl rfl (cell_one_new _ _ _) (by simp [Value.oneCell']) (by unfold maxLen; omega) (by omega) (by have := HG1.out.size; simp at this ⊢; omega) ?_; intro v' w3 hown' hgrow _ hat; obtain ⟨g', cap', rfl⟩ := ownsRow_succ hown'; obtain ⟨hv1, hv2, hr2, hk2, hb2⟩ := hv.appended (by decide) hrow (by have := HG1.out.size; simp at this; omega) (Nat.le_refl _) hown' hgrow; have hc1 := hv1.cell; have hf1 := hv1.frozen))
    go_ret
    exact ⟨rfl, names1_end HI.out hx HN.out HV.out HR.out HO1.out HG1.out hgrow hat hv2 (by simpa using hr2)⟩
end Go.Proofs.YtciijpahjjoppaaGreat
end
