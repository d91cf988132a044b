/-
  Has, walked; TextGoes, its beginning.
-/
import Derived.Test.YtjdmaindoohmkaaDoorMem
namespace Go.Proofs.YtjdmaindoohmkaaDoor
open Go.RowKit

def s_all (set : ByteArray) : List UInt8 := set.data.toList.take set.size
theorem inTo_mono (set : ByteArray) (k c : Nat) (h : k < set.size) (hc : (bt set k).toNat = c) : inTo set set.size c = true := by
  unfold inTo
  rw [List.any_eq_true]
  refine ⟨bt set k, ?_, by simp [hc]⟩
  have : s_all set = set.data.toList.take set.size := rfl
  rw [← this]
  unfold s_all
  rw [← bt_eq set k h]
  have hl : k < (set.data.toList.take set.size).length := by
    rw [List.length_take]
    have : set.data.toList.length = set.size := by simp
    omega
  have e : (set.data.toList.take set.size)[k] = set[k] := by
    rw [List.getElem_take]; rfl
  rw [← e]
  exact List.getElem_mem hl
set_option maxHeartbeats 400000 in
theorem has_any (set : ByteArray) (c : Nat) (w : World) (hs : set.size ≤ maxLen) :
    Calls Tryd.prog 25 #[.string set, .int .u8 (c : Int)] w fun e w' => e = .returned (.bool (inTo set set.size c)) ∧ w' = w := by
  unfold maxLen at hs
  go_enter Tryd.func25, Tryd.ntmps25
  go_wp2_with fail
  go_loop [5] (fun i => ∃ k : Nat, k ≤ set.size ∧ i = .int .i64 k ∧ inTo set k c = false) (fun i => set.size - (intOf i).toNat)
  case atStart => exact ⟨0, Nat.zero_le _, rfl, inTo_zero _ _⟩
  case round =>
    obtain ⟨k, hk, rfl, hn⟩ := hrel
    have HN := Lib.hid hn
    clear hn
    by_cases hlt : k < set.size
    · have hb := bt_eq set k hlt
      by_cases he : (bt set k).toNat = c
      · have E := Lib.hid (inTo_mono set k c hlt he)
        rw [← hb] at he
        clear hb
        have hq : ((set[k].toNat : Int) == (c : Int)) = true := by simp; omega
        clear he
        go_wp2_with fail
        go_ret
        exact ⟨by rw [E.out]; rfl, rfl⟩
      · have E := Lib.hid (show inTo set (k + 1) c = false by rw [inTo_succ set k c hlt, if_neg (fun h => he h.symm)]; exact HN.out)
        rw [← hb] at he
        clear hb
        have hq : ((set[k].toNat : Int) == (c : Int)) = false := by simp; omega
        clear he
        go_wp2_with fail
        go_round
        case rel => exact ⟨k + 1, by omega, by go_num, E.out⟩
        case measure => simp [intOf]; omega
    · obtain rfl : k = set.size := by omega
      go_wp2_with fail
      go_ret
      exact ⟨by rw [HN.out]; rfl, rfl⟩
end Go.Proofs.YtjdmaindoohmkaaDoor
