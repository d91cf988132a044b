/-
  Numbers, walked: allDigits, Number, and the reference's Number.
-/
import Derived.Test.YtjdmaindoohmkaaDoorRows
import Derived.Test.YtjdmaindoohmkaaDoorPos
import Derived.WalkKit
import Derived.WalkSpells
import Derived.WalkLawsBesides
import Derived.BigQuiet
import Derived.Deep.QuietTactic
import Derived.Lib.Hide
import Derived.IntWalk
namespace Go.Proofs.YtjdmaindoohmkaaDoor
open Go.RowKit

def Dig (s : ByteArray) (j : Nat) : Prop := 48 ≤ (bt s j).toNat ∧ (bt s j).toNat ≤ 57
def AD (s : ByteArray) : Prop := 0 < s.size ∧ ∀ j, j < s.size → Dig s j
theorem ba_empty (s : ByteArray) (h : s.size = 0) : s = ⟨#[]⟩ := by
  cases s with
  | mk d => congr; exact Array.eq_empty_of_size_eq_zero h

theorem toList_ne (s : ByteArray) (h : 0 < s.size) : ¬ s.toList = [] := by
  rw [ByteArray.toList_eq]
  intro e
  have : s.data.toList.length = s.size := by simp
  rw [e] at this
  simp at this
  omega

set_option maxHeartbeats 400000 in
theorem allDigits_yes (s : ByteArray) (w : World) (hs : s.size ≤ maxLen) (h : AD s) :
    Calls Tryd.prog 94 #[.string s] w fun e w' => e = .returned (.bool true) ∧ w = w' := by
  have H := Lib.hid h
  clear h
  unfold maxLen at hs
  go_enter Tryd.func94, Tryd.ntmps94
  go_wp2
  go_loop [6] (fun i => ∃ k : Nat, k ≤ s.size ∧ i = .int .i64 k) (fun i => s.size - (intOf i).toNat)
  case atStart => exact ⟨0, Nat.zero_le _, rfl⟩
  case round =>
    obtain ⟨k, hk, rfl⟩ := hrel
    by_cases hlt : k < s.size
    · have hd := H.out.2 k hlt
      unfold Dig at hd
      rw [← bt_eq s k hlt] at hd
      obtain ⟨d1, d2⟩ := hd
      have d1' : (48 : Int) ≤ (s[k].toNat : Int) := by omega
      have d2' : (s[k].toNat : Int) ≤ 57 := by omega
      go_wp2
      go_round
      case rel => exact ⟨k + 1, by omega, by go_num⟩
      case measure => simp [intOf]; omega
    · have hpos := H.out.1
      have hne := toList_ne s hpos
      have hne' : (!s.toList.isEmpty) = true := by simp [hne]
      go_wp2
      go_ret
      exact ⟨rfl, rfl⟩

set_option maxHeartbeats 400000 in
theorem allDigits_empty (w : World) :
    Calls Tryd.prog 94 #[.string ⟨#[]⟩] w fun e w' => e = .returned (.bool false) ∧ w = w' := by
  go_enter Tryd.func94, Tryd.ntmps94
  go_wp2
  go_loop [6] (fun i => i = .int .i64 0) (fun _ => 0)
  case atStart => rfl
  case round =>
    obtain rfl := hrel
    go_wp2
    go_ret
    exact ⟨rfl, rfl⟩

set_option maxHeartbeats 400000 in
theorem allDigits_no (s : ByteArray) (w : World) (hs : s.size ≤ maxLen) (hz : 0 < s.size) (h : ¬ AD s) :
    Calls Tryd.prog 94 #[.string s] w fun e w' => e = .returned (.bool false) ∧ w = w' := by
  have H := Lib.hid h
  clear h
  unfold maxLen at hs
  go_enter Tryd.func94, Tryd.ntmps94
  go_wp2
  go_loop [6] (fun i => ∃ k : Nat, k ≤ s.size ∧ i = .int .i64 k ∧ ∀ j, j < k → Dig s j) (fun i => s.size - (intOf i).toNat)
  case atStart => exact ⟨0, Nat.zero_le _, rfl, fun j h => absurd h (Nat.not_lt_zero _)⟩
  case round =>
    obtain ⟨k, hk, rfl, hg⟩ := hrel
    have G := Lib.hid hg
    clear hg
    by_cases hlt : k < s.size
    · by_cases d1 : (s[k].toNat : Int) < 48
      · go_wp2
        go_ret
        exact ⟨rfl, rfl⟩
      · by_cases d2 : (57 : Int) < (s[k].toNat : Int)
        · go_wp2
          go_ret
          exact ⟨rfl, rfl⟩
        · go_wp2
          go_round
          case rel => exact ⟨k + 1, by omega, by go_num, fun j hj => by
            by_cases e : j = k
            · subst e; unfold Dig; rw [← bt_eq s j hlt]; omega
            · exact G.out j (by omega)⟩
          case measure => simp [intOf]; omega
    · exact absurd ⟨hz, fun j hj => G.out j (by omega)⟩ H.out

def valTo (s : ByteArray) : Nat → Nat
  | 0 => 0
  | k + 1 => valTo s k * 10 + ((bt s k).toNat - 48)
theorem valTo_le (s : ByteArray) (k : Nat) : valTo s k ≤ valTo s (k + 1) := by simp only [valTo]; omega
theorem valTo_mono (s : ByteArray) (j k : Nat) (h : j ≤ k) : valTo s j ≤ valTo s k := by
  induction k with
  | zero => have : j = 0 := by omega
            subst this; exact Nat.le_refl _
  | succ k ih =>
    by_cases e : j = k + 1
    · subst e; exact Nat.le_refl _
    · exact Nat.le_trans (ih (by omega)) (valTo_le s k)

theorem notAD_any (s : ByteArray) (w : World) (hs : s.size ≤ maxLen) (h : ¬ AD s) :
    Calls Tryd.prog 94 #[.string s] w fun e w' => e = .returned (.bool false) ∧ w = w' := by
  by_cases hz : 0 < s.size
  · exact allDigits_no s w hs hz h
  · rw [ba_empty s (by omega)]; exact allDigits_empty w

set_option maxHeartbeats 400000 in
theorem number_bad (s : ByteArray) (w : World) (hs : s.size ≤ maxLen) (h : ¬ AD s) :
    Calls Tryd.prog 72 #[.string s] w fun e w' => e = .returned (.tuple #[.int .i64 0, .int .i64 5]) ∧ w = w' := by
  have H := Lib.hid h
  clear h
  go_enter Tryd.func72, Tryd.ntmps72
  go_wp2_with fail
  refine (notAD_any s _ hs H.out).mono ?_
  rintro e w' ⟨rfl, rfl⟩
  go_wp2
  go_ret2
  exact ⟨rfl, rfl⟩

set_option maxHeartbeats 400000 in
theorem number_ok (s : ByteArray) (w : World) (hs : s.size ≤ maxLen) (h : AD s) (hv : (valTo s s.size : Int) ≤ 9223372036854775807) :
    Calls Tryd.prog 72 #[.string s] w fun e w' => e = .returned (.tuple #[.int .i64 (valTo s s.size : Nat), .int .i64 0]) ∧ w = w' := by
  have H := Lib.hid h
  have V := Lib.hid hv
  clear h hv
  have hs' := hs
  unfold maxLen at hs'
  go_enter Tryd.func72, Tryd.ntmps72
  go_wp2_with fail
  refine (allDigits_yes s _ hs H.out).mono ?_
  rintro e w' ⟨rfl, rfl⟩
  go_wp2
  go_loop [4, 12] (fun n i => ∃ k : Nat, k ≤ s.size ∧ i = .int .i64 k ∧ n = .int .i64 (valTo s k : Nat)) (fun _ i => s.size - (intOf i).toNat)
  case atStart => exact ⟨0, Nat.zero_le _, rfl, rfl⟩
  case round =>
    obtain ⟨k, hk, rfl, rfl⟩ := hrel
    by_cases hlt : k < s.size
    · have hd := H.out.2 k hlt
      unfold Dig at hd
      have hm := valTo_mono s (k + 1) s.size (by omega)
      have hv := V.out
      have he : valTo s (k + 1) = valTo s k * 10 + ((bt s k).toNat - 48) := rfl
      rw [← bt_eq s k hlt] at hd he
      obtain ⟨d1, d2⟩ := hd
      have d1' : (48 : Int) ≤ (s[k].toNat : Int) := by omega
      have d2' : (s[k].toNat : Int) ≤ 57 := by omega
      have hb : ((valTo s (k + 1) : Nat) : Int) = (valTo s k : Int) * 10 + ((s[k].toNat : Int) - 48) := by omega
      have hc : ¬ (9223372036854775807 - ((s[k].toNat : Int) - 48)) / 10 < (valTo s k : Int) := by omega
      have hc0 : (valTo s k : Int) * 10 + ((s[k].toNat : Int) - 48) ≤ 9223372036854775807 := by omega
      have E := Lib.hid hb
      clear hb he hv hm d1 d2
      go_wp2
      go_round
      case rel => exact ⟨k + 1, by omega, by go_num, by rw [E.out]⟩
      case measure => simp [intOf]; omega
    · obtain rfl : k = s.size := by omega
      go_wp2
      go_ret2
      exact ⟨rfl, rfl⟩

set_option maxHeartbeats 400000 in
theorem number_big (s : ByteArray) (w : World) (hs : s.size ≤ maxLen) (h : AD s) (hv : (9223372036854775807 : Int) < (valTo s s.size : Int)) :
    Calls Tryd.prog 72 #[.string s] w fun e w' => e = .returned (.tuple #[.int .i64 0, .int .i64 6]) ∧ w = w' := by
  have H := Lib.hid h
  have V := Lib.hid hv
  clear h hv
  have hs' := hs
  unfold maxLen at hs'
  go_enter Tryd.func72, Tryd.ntmps72
  go_wp2_with fail
  refine (allDigits_yes s _ hs H.out).mono ?_
  rintro e w' ⟨rfl, rfl⟩
  go_wp2
  go_loop [4, 12] (fun n i => ∃ k : Nat, k ≤ s.size ∧ i = .int .i64 k ∧ n = .int .i64 (valTo s k : Nat) ∧ (valTo s k : Int) ≤ 9223372036854775807) (fun _ i => s.size - (intOf i).toNat)
  case atStart => exact ⟨0, Nat.zero_le _, rfl, rfl, by simp [valTo]⟩
  case round =>
    obtain ⟨k, hk, rfl, rfl, hle⟩ := hrel
    by_cases hlt : k < s.size
    · have hd := H.out.2 k hlt
      unfold Dig at hd
      have he : valTo s (k + 1) = valTo s k * 10 + ((bt s k).toNat - 48) := rfl
      rw [← bt_eq s k hlt] at hd he
      obtain ⟨d1, d2⟩ := hd
      have d1' : (48 : Int) ≤ (s[k].toNat : Int) := by omega
      have d2' : (s[k].toNat : Int) ≤ 57 := by omega
      have hb : ((valTo s (k + 1) : Nat) : Int) = (valTo s k : Int) * 10 + ((s[k].toNat : Int) - 48) := by omega
      have E := Lib.hid hb
      clear hb he d1 d2
      by_cases hc : (9223372036854775807 - ((s[k].toNat : Int) - 48)) / 10 < (valTo s k : Int)
      · go_wp2
        go_ret2
        exact ⟨rfl, rfl⟩
      · have hc0 : (valTo s k : Int) * 10 + ((s[k].toNat : Int) - 48) ≤ 9223372036854775807 := by omega
        go_wp2
        go_round
        case rel => exact ⟨k + 1, by omega, by go_num, by rw [E.out], by rw [E.out]; exact hc0⟩
        case measure => simp [intOf]; omega
    · obtain rfl : k = s.size := by omega
      have := V.out
      omega

set_option maxHeartbeats 400000 in
theorem refNumber_empty (w : World) :
    Calls Tryd.prog 45 #[.string ⟨#[]⟩] w fun e w' => e = .returned (.tuple #[.int .i64 0, .int .i64 5]) ∧ w = w' := by
  go_enter Tryd.func45, Tryd.ntmps45
  go_wp2
  go_ret2
  exact ⟨rfl, rfl⟩

set_option maxHeartbeats 400000 in
theorem refNumber_no (s : ByteArray) (w : World) (hs : s.size ≤ maxLen) (hz : 0 < s.size) (h : ¬ AD s) :
    Calls Tryd.prog 45 #[.string s] w fun e w' => e = .returned (.tuple #[.int .i64 0, .int .i64 5]) ∧ w = w' := by
  have H := Lib.hid h
  clear h
  unfold maxLen at hs
  have hne := toList_ne s hz
  have hne' : s.toList.isEmpty = false := by simp [hne]
  go_enter Tryd.func45, Tryd.ntmps45
  go_wp2
  go_loop [4] (fun i => ∃ k : Nat, k ≤ s.size ∧ i = .int .i64 k ∧ ∀ j, j < k → Dig s j) (fun i => s.size - (intOf i).toNat)
  case atStart => exact ⟨0, Nat.zero_le _, rfl, fun j h => absurd h (Nat.not_lt_zero _)⟩
  case round =>
    obtain ⟨k, hk, rfl, hg⟩ := hrel
    have G := Lib.hid hg
    clear hg
    by_cases hlt : k < s.size
    · by_cases d1 : (s[k].toNat : Int) < 48
      · go_wp2
        go_ret2
        exact ⟨rfl, rfl⟩
      · by_cases d2 : (57 : Int) < (s[k].toNat : Int)
        · go_wp2
          go_ret2
          exact ⟨rfl, rfl⟩
        · go_wp2
          go_round
          case rel => exact ⟨k + 1, by omega, by go_num, fun j hj => by
            by_cases e : j = k
            · subst e; unfold Dig; rw [← bt_eq s j hlt]; omega
            · exact G.out j (by omega)⟩
          case measure => simp [intOf]; omega
    · exact absurd ⟨hz, fun j hj => G.out j (by omega)⟩ H.out
theorem refNumber_bad (s : ByteArray) (w : World) (hs : s.size ≤ maxLen) (h : ¬ AD s) :
    Calls Tryd.prog 45 #[.string s] w fun e w' => e = .returned (.tuple #[.int .i64 0, .int .i64 5]) ∧ w = w' := by
  by_cases hz : 0 < s.size
  · exact refNumber_no s w hs hz h
  · rw [ba_empty s (by omega)]; exact refNumber_empty w

set_option maxHeartbeats 800000 in
theorem refNumber_ok (s : ByteArray) (w : World) (hs : s.size ≤ maxLen) (h : AD s) (hv : (valTo s s.size : Int) ≤ 9223372036854775807) :
    Calls Tryd.prog 45 #[.string s] w fun e w' => e = .returned (.tuple #[.int .i64 (valTo s s.size : Nat), .int .i64 0]) ∧ w = w' := by
  have H := Lib.hid h
  have V := Lib.hid hv
  clear h hv
  unfold maxLen at hs
  have hne := toList_ne s H.out.1
  have hne' : s.toList.isEmpty = false := by simp [hne]
  go_enter Tryd.func45, Tryd.ntmps45
  go_wp2
  go_loop [4] (fun i => ∃ k : Nat, k ≤ s.size ∧ i = .int .i64 k) (fun i => s.size - (intOf i).toNat)
  case atStart => exact ⟨0, Nat.zero_le _, rfl⟩
  case round =>
    obtain ⟨k, hk, rfl⟩ := hrel
    by_cases hlt : k < s.size
    · have hd := H.out.2 k hlt
      unfold Dig at hd
      rw [← bt_eq s k hlt] at hd
      obtain ⟨d1, d2⟩ := hd
      have d1' : (48 : Int) ≤ (s[k].toNat : Int) := by omega
      have d2' : (s[k].toNat : Int) ≤ 57 := by omega
      go_wp2
      go_round
      case rel => exact ⟨k + 1, by omega, by go_num⟩
      case measure => simp [intOf]; omega
    · obtain rfl : k = s.size := by omega
      clear hlt hk
      go_wp2
      go_loop [5, 6] (fun n i => ∃ k : Nat, k ≤ s.size ∧ i = .int .i64 k ∧ n = .int .u64 (valTo s k : Nat)) (fun _ i => s.size - (intOf i).toNat)
      case atStart => exact ⟨0, Nat.zero_le _, rfl, rfl⟩
      case round =>
        obtain ⟨k, hk, rfl, rfl⟩ := hrel
        by_cases hlt : k < s.size
        · have hd := H.out.2 k hlt
          unfold Dig at hd
          have hm := valTo_mono s (k + 1) s.size (by omega)
          have hv := V.out
          have he : valTo s (k + 1) = valTo s k * 10 + ((bt s k).toNat - 48) := rfl
          rw [← bt_eq s k hlt] at hd he
          obtain ⟨d1, d2⟩ := hd
          have d1' : (48 : Int) ≤ (s[k].toNat : Int) := by omega
          have d2' : (s[k].toNat : Int) ≤ 57 := by omega
          have hb : ((valTo s (k + 1) : Nat) : Int) = (valTo s k : Int) * 10 + ((s[k].toNat : Int) - 48) := by omega
          have hc : ¬ (922337203685477580 : Int) < (valTo s k : Int) := by omega
          have hc0 : (valTo s k : Int) * 10 + ((s[k].toNat : Int) - 48) ≤ 9223372036854775807 := by omega
          have E := Lib.hid hb
          clear hb he hv hm d1 d2
          by_cases hq : (valTo s k : Int) = 922337203685477580
          · have hq1 : ((valTo s k : Int) == 922337203685477580) = true := by simp [hq]
            have hq2 : ¬ (7 : Int) < (s[k].toNat : Int) - 48 := by omega
            clear hq
            go_wp2
            go_round
            case rel => exact ⟨k + 1, by omega, by go_num, by rw [E.out]⟩
            case measure => simp [intOf]; omega
          · have hq1 : ((valTo s k : Int) == 922337203685477580) = false := by simp [hq]
            clear hq
            go_wp2
            go_round
            case rel => exact ⟨k + 1, by omega, by go_num, by rw [E.out]⟩
            case measure => simp [intOf]; omega
        · obtain rfl : k = s.size := by omega
          have hv := V.out
          go_wp2
          go_ret2
          exact ⟨rfl, rfl⟩

set_option maxHeartbeats 800000 in
theorem refNumber_big (s : ByteArray) (w : World) (hs : s.size ≤ maxLen) (h : AD s) (hv : (9223372036854775807 : Int) < (valTo s s.size : Int)) :
    Calls Tryd.prog 45 #[.string s] w fun e w' => e = .returned (.tuple #[.int .i64 0, .int .i64 6]) ∧ w = w' := by
  have H := Lib.hid h
  have V := Lib.hid hv
  clear h hv
  unfold maxLen at hs
  have hne := toList_ne s H.out.1
  have hne' : s.toList.isEmpty = false := by simp [hne]
  go_enter Tryd.func45, Tryd.ntmps45
  go_wp2
  go_loop [4] (fun i => ∃ k : Nat, k ≤ s.size ∧ i = .int .i64 k) (fun i => s.size - (intOf i).toNat)
  case atStart => exact ⟨0, Nat.zero_le _, rfl⟩
  case round =>
    obtain ⟨k, hk, rfl⟩ := hrel
    by_cases hlt : k < s.size
    · have hd := H.out.2 k hlt
      unfold Dig at hd
      rw [← bt_eq s k hlt] at hd
      obtain ⟨d1, d2⟩ := hd
      have d1' : (48 : Int) ≤ (s[k].toNat : Int) := by omega
      have d2' : (s[k].toNat : Int) ≤ 57 := by omega
      go_wp2
      go_round
      case rel => exact ⟨k + 1, by omega, by go_num⟩
      case measure => simp [intOf]; omega
    · obtain rfl : k = s.size := by omega
      clear hlt hk
      go_wp2
      go_loop [5, 6] (fun n i => ∃ k : Nat, k ≤ s.size ∧ i = .int .i64 k ∧ n = .int .u64 (valTo s k : Nat) ∧ (valTo s k : Int) ≤ 9223372036854775807) (fun _ i => s.size - (intOf i).toNat)
      case atStart => exact ⟨0, Nat.zero_le _, rfl, rfl, by simp [valTo]⟩
      case round =>
        obtain ⟨k, hk, rfl, rfl, hle⟩ := hrel
        by_cases hlt : k < s.size
        · have hd := H.out.2 k hlt
          unfold Dig at hd
          have he : valTo s (k + 1) = valTo s k * 10 + ((bt s k).toNat - 48) := rfl
          rw [← bt_eq s k hlt] at hd he
          obtain ⟨d1, d2⟩ := hd
          have d1' : (48 : Int) ≤ (s[k].toNat : Int) := by omega
          have d2' : (s[k].toNat : Int) ≤ 57 := by omega
          have hb : ((valTo s (k + 1) : Nat) : Int) = (valTo s k : Int) * 10 + ((s[k].toNat : Int) - 48) := by omega
          have E := Lib.hid hb
          clear hb he d1 d2
          by_cases hc : (922337203685477580 : Int) < (valTo s k : Int)
          · go_wp2
            go_ret2
            exact ⟨rfl, rfl⟩
          · by_cases hq : (valTo s k : Int) = 922337203685477580
            · have hq1 : ((valTo s k : Int) == 922337203685477580) = true := by simp [hq]
              by_cases hq2 : (7 : Int) < (s[k].toNat : Int) - 48
              · clear hq
                go_wp2
                go_ret2
                exact ⟨rfl, rfl⟩
              · have hc0 : (valTo s k : Int) * 10 + ((s[k].toNat : Int) - 48) ≤ 9223372036854775807 := by omega
                clear hq
                go_wp2
                go_round
                case rel => exact ⟨k + 1, by omega, by go_num, by rw [E.out], by rw [E.out]; exact hc0⟩
                case measure => simp [intOf]; omega
            · have hq1 : ((valTo s k : Int) == 922337203685477580) = false := by simp [hq]
              have hc0 : (valTo s k : Int) * 10 + ((s[k].toNat : Int) - 48) ≤ 9223372036854775807 := by omega
              clear hq
              go_wp2
              go_round
              case rel => exact ⟨k + 1, by omega, by go_num, by rw [E.out], by rw [E.out]; exact hc0⟩
              case measure => simp [intOf]; omega
        · obtain rfl : k = s.size := by omega
          have := V.out
          omega
end Go.Proofs.YtjdmaindoohmkaaDoor
