/-
  The cursor's calls (New, Peek, Next, Pos), walked.
-/
import Derived.Test.YtjdmaindoohmkaaDoorRows
import Derived.Test.YtjdmaindoohmkaaDoorPos
import Derived.WalkKit
import Derived.WalkSpells
import Derived.WalkLawsBesides
import Derived.BigQuiet
import Derived.Deep.QuietTactic
import Derived.Lib.Hide
import Derived.IntWalk
namespace Go.Proofs.YtjdmaindoohmkaaDoor
open Go.RowKit

set_option maxHeartbeats 400000 in
theorem new_any (s : ByteArray) (w : World) :
    Calls Tryd.prog 31 #[.string s] w fun e w' => e = .returned (.pointer (some ⟨w.heap.size, 0, none⟩)) ∧ w' = w.alloc (.cells #[.string s, .int .i64 0, .int .i64 0, .int .i64 0] 79) := by
  go_enter Tryd.func31, Tryd.ntmps31
  go_wp2
  go_ret
  exact ⟨rfl, rfl⟩

set_option maxHeartbeats 400000 in
theorem peek_nil (i : Int) (w : World) :
    Calls Tryd.prog 52 #[.pointer none, .int .i64 i] w fun e w' => e = .returned (.tuple #[.int .u8 0, .bool false]) ∧ ∃ n, w' = w.drewN n := by
  go_enter Tryd.func52, Tryd.ntmps52
  go_wp2
  go_quiet (fail)
  go_wp2
  go_ret2
  exact ⟨rfl, _, rfl⟩

set_option maxHeartbeats 400000 in
theorem peek_neg (b : Nat) (i : Int) (w : World) (hi : i < 0) :
    Calls Tryd.prog 52 #[.pointer (some ⟨b, 0, none⟩), .int .i64 i] w fun e w' => e = .returned (.tuple #[.int .u8 0, .bool false]) ∧ ∃ n, w' = w.drewN n := by
  have hd : decide (i < 0) = true := by simpa using hi
  go_enter Tryd.func52, Tryd.ntmps52
  go_wp2
  go_quiet (fail)
  go_wp2
  go_ret2
  exact ⟨rfl, _, rfl⟩

set_option maxHeartbeats 400000 in
theorem peek_out (b k : Nat) (i : Int) (s : ByteArray) (w : World) (h0 : w.cell? ⟨b, 0, none⟩ = some (.string s)) (h1 : w.cell? ⟨b, 1, none⟩ = some (.int .i64 (k : Int)))
    (hs : s.size ≤ maxLen) (hk : k ≤ s.size) (hi0 : 0 ≤ i) (hi : (s.size : Int) - k ≤ i) :
    Calls Tryd.prog 52 #[.pointer (some ⟨b, 0, none⟩), .int .i64 i] w fun e w' => e = .returned (.tuple #[.int .u8 0, .bool false]) ∧ ∃ n, w' = w.drewN n := by
  unfold maxLen at hs
  have hd : decide (i < 0) = false := by simp; omega
  go_enter Tryd.func52, Tryd.ntmps52
  go_wp2
  go_quiet (fail)
  go_wp2
  go_ret2
  exact ⟨rfl, _, rfl⟩

set_option maxHeartbeats 400000 in
theorem peek_in (b k : Nat) (i : Int) (s : ByteArray) (w : World) (h0 : w.cell? ⟨b, 0, none⟩ = some (.string s)) (h1 : w.cell? ⟨b, 1, none⟩ = some (.int .i64 (k : Int)))
    (hs : s.size ≤ maxLen) (hk : k ≤ s.size) (hi0 : 0 ≤ i) (hi : i < (s.size : Int) - k) :
    Calls Tryd.prog 52 #[.pointer (some ⟨b, 0, none⟩), .int .i64 i] w fun e w' => e = .returned (.tuple #[.int .u8 (bt s (k + i.toNat)).toNat, .bool true]) ∧ ∃ n, w' = w.drewN n := by
  unfold maxLen at hs
  obtain ⟨j, rfl⟩ := Int.eq_ofNat_of_zero_le hi0
  rw [Int.toNat_natCast]
  have hd : decide ((j : Int) < 0) = false := by simp
  have hlt : k + j < s.size := by omega
  have hw0 : (0 : Int) ≤ (k : Int) + j := by omega
  have hw1 : (k : Int) + j < s.size := by omega
  have hw2 : ((k : Int) + j).toNat = k + j := by omega
  have hw : IntKind.i64.wrap ((k : Int) + j) = (k : Int) + j := IntWalk.i64_in _ (by omega)
  rw [← bt_eq s (k + j) hlt]
  go_enter Tryd.func52, Tryd.ntmps52
  go_wp2
  go_quiet (fail)
  go_wp2
  go_quiet (fail)
  go_wp2
  go_ret2
  exact ⟨rfl, _, World.drewN_drewN ..⟩

set_option maxHeartbeats 400000 in
theorem next_out (b k : Nat) (s : ByteArray) (w : World) (hc : CurAt w b s k) (hs : s.size ≤ maxLen) (hk : s.size ≤ k) :
    Calls Tryd.prog 53 #[.pointer (some ⟨b, 0, none⟩)] w fun e w' => e = .returned (.tuple #[.int .u8 0, .bool false]) ∧ ∃ n, w' = w.drewN n := by
  have C0 := Lib.hid hc.c0
  have C1 := Lib.hid hc.c1
  have hle := hc.le
  clear hc
  go_enter Tryd.func53, Tryd.ntmps53
  go_wp2_with fail
  refine (peek_out b k 0 s _ C0.out C1.out hs hle (by omega) (by omega)).mono ?_
  rintro e w' ⟨rfl, n, rfl⟩
  go_wp2
  go_ret2
  exact ⟨rfl, _, rfl⟩
theorem next_nil (w : World) :
    Calls Tryd.prog 53 #[.pointer none] w fun e w' => e = .returned (.tuple #[.int .u8 0, .bool false]) ∧ ∃ n, w' = w.drewN n := by
  go_enter Tryd.func53, Tryd.ntmps53
  go_wp2_with fail
  refine (peek_nil 0 _).mono ?_
  rintro e w' ⟨rfl, n, rfl⟩
  go_wp2
  go_ret2
  exact ⟨rfl, _, rfl⟩

set_option maxHeartbeats 400000 in
theorem next_in (b k : Nat) (s : ByteArray) (w : World) (hc : CurAt w b s k) (hs : s.size ≤ maxLen) (hk : k < s.size) :
    Calls Tryd.prog 53 #[.pointer (some ⟨b, 0, none⟩)] w fun e w' => e = .returned (.tuple #[.int .u8 (bt s k).toNat, .bool true]) ∧ CurAt w' b s (k + 1) ∧ Only b w w' := by
  have C := Lib.hid hc
  have h0 := hc.c0
  have h1 := hc.c1
  have h2 := hc.c2
  have h3 := hc.c3
  have f1 := hc.fz 1
  have f2 := hc.fz 2
  have f3 := hc.fz 3
  have hl := line_le s k
  have hco := col_le s k
  clear hc
  have hs' := hs
  unfold maxLen at hs'
  by_cases hn : (bt s k).toNat = 10
  · have e1 := line_nl s k hk hn
    have e2 := col_nl s k hk hn
    have E1 := Lib.hid e1
    have E2 := Lib.hid e2
    clear e1 e2
    have hb : (((bt s k).toNat : Int) == 10) = true := by simp; omega
    clear hn
    go_enter Tryd.func53, Tryd.ntmps53
    go_wp2_with fail
    refine (peek_in b k 0 s _ h0 h1 hs (by omega) (by omega) (by omega)).mono ?_
    rintro e w' ⟨rfl, n, rfl⟩
    go_wp2
    go_ret2
    refine ⟨rfl, ⟨hk, ?_⟩, ((((Only.refl b w).drewN n).setCell rfl _).setCell rfl _ |>.setCell rfl _).setCell rfl _⟩
    rw [heap_set (heap_set (heap_set (heap_set (show (w.drewN n).heap[b]? = _ from C.out.blk) _) _) _) _, E1.out, E2.out]
    simp
  · have e1 := line_no s k hk hn
    have e2 := col_no s k hk hn
    have E1 := Lib.hid e1
    have E2 := Lib.hid e2
    clear e1 e2
    have hb : (((bt s k).toNat : Int) == 10) = false := by simp; omega
    clear hn
    go_enter Tryd.func53, Tryd.ntmps53
    go_wp2_with fail
    refine (peek_in b k 0 s _ h0 h1 hs (by omega) (by omega) (by omega)).mono ?_
    rintro e w' ⟨rfl, n, rfl⟩
    go_wp2
    go_ret2
    refine ⟨rfl, ⟨hk, ?_⟩, (((Only.refl b w).drewN n).setCell rfl _).setCell rfl _⟩
    rw [heap_set (heap_set (show (w.drewN n).heap[b]? = _ from C.out.blk) _) _, E1.out, E2.out]
    simp

def skipN (n : Int) (k : Nat) (s : ByteArray) : Nat := min n.toNat (s.size - k)
set_option maxHeartbeats 400000 in
theorem skip_any (b k : Nat) (n : Int) (s : ByteArray) (w : World) (hc : CurAt w b s k) (hs : s.size ≤ maxLen) :
    Calls Tryd.prog 70 #[.pointer (some ⟨b, 0, none⟩), .int .i64 n] w fun e w' => e = .returned (.int .i64 (skipN n k s : Nat)) ∧ CurAt w' b s (k + skipN n k s) ∧ Only b w w' := by
  have C := Lib.hid hc
  clear hc
  have hs' := hs
  unfold maxLen at hs'
  go_enter Tryd.func70, Tryd.ntmps70
  go_wp2_with fail
  go_loopw [5] (fun d wr => ∃ j : Nat, d = .int .i64 j ∧ j ≤ n.toNat ∧ CurAt wr b s (k + j) ∧ Only b w wr) (fun d _ => s.size - (intOf d).toNat)
  case atStart => exact ⟨0, rfl, Nat.zero_le _, C.out, Only.refl _ _⟩
  case round =>
    obtain ⟨j, rfl, hj, hcj, ho⟩ := hrel
    have hle := hcj.le
    have CJ := Lib.hid hcj
    have O := Lib.hid ho
    clear hcj ho
    by_cases hlt : (j : Int) < n
    · by_cases hin : k + j < s.size
      · go_wp2_with fail
        refine (next_in b (k + j) s _ CJ.out hs hin).mono ?_
        rintro e w' ⟨rfl, hc1, ho1⟩
        have C1 := Lib.hid hc1
        have O1 := Lib.hid ho1
        clear hc1 ho1
        go_wp2_with fail
        go_roundw
        case rel => exact ⟨j + 1, by go_num, by omega, C1.out, O.out.trans O1.out⟩
        case measure => simp [intOf]; omega
      · go_wp2_with fail
        refine (next_out b (k + j) s _ CJ.out hs (by omega)).mono ?_
        rintro e w' ⟨rfl, m, rfl⟩
        go_wp2_with fail
        go_ret
        have e : skipN n k s = j := by unfold skipN; omega
        rw [e]
        exact ⟨rfl, CJ.out.drewN _, O.out.drewN _⟩
    · go_wp2_with fail
      go_ret
      have e : skipN n k s = j := by unfold skipN; omega
      rw [e]
      exact ⟨rfl, CJ.out, O.out⟩
set_option maxHeartbeats 400000 in
theorem skip_nil (n : Int) (w : World) :
    Calls Tryd.prog 70 #[.pointer none, .int .i64 n] w fun e w' => e = .returned (.int .i64 0) ∧ ∃ m, w' = w.drewN m := by
  by_cases hlt : (0 : Int) < n
  · go_enter Tryd.func70, Tryd.ntmps70
    go_wp2_with fail
    go_loopw [5] (fun d wr => d = .int .i64 0 ∧ wr = w) (fun _ _ => 0)
    case atStart => exact ⟨rfl, rfl⟩
    case round =>
      obtain ⟨rfl, rfl⟩ := hrel
      go_wp2_with fail
      refine (next_nil _).mono ?_
      rintro e w' ⟨rfl, m, rfl⟩
      go_wp2_with fail
      go_ret
      exact ⟨rfl, _, rfl⟩
  · go_enter Tryd.func70, Tryd.ntmps70
    go_wp2_with fail
    go_loopw [5] (fun d wr => d = .int .i64 0 ∧ wr = w) (fun _ _ => 0)
    case atStart => exact ⟨rfl, rfl⟩
    case round =>
      obtain ⟨rfl, rfl⟩ := hrel
      go_wp2_with fail
      go_ret
      exact ⟨rfl, 0, rfl⟩
set_option maxHeartbeats 400000 in
theorem pos_any (b k : Nat) (s : ByteArray) (w : World) (hc : CurAt w b s k) :
    Calls Tryd.prog 33 #[.pointer (some ⟨b, 0, none⟩)] w fun e w' => e = .returned (.agg #[.int .i64 (k : Nat), .int .i64 (lineOf s k : Nat), .int .i64 (colOf s k : Nat)]) ∧ Below w.heap.size w w' := by
  have hl := hc.lt
  have h1 := hc.c1
  have h2 := hc.c2
  have h3 := hc.c3
  clear hc
  go_enter Tryd.func33, Tryd.ntmps33
  go_wp2
  exact bodyPost_ret (v := .agg #[.int .i64 (k : Nat), .int .i64 (lineOf s k : Nat), .int .i64 (colOf s k : Nat)]) (by simp [results, Tryd.results33, go_sem]) rfl ⟨rfl, (Below.refl _ _).alloc (Nat.le_refl _) _⟩
theorem pos_nil (w : World) :
    Calls Tryd.prog 33 #[.pointer none] w fun e w' => e = .returned (.agg #[.int .i64 0, .int .i64 0, .int .i64 0]) ∧ Below w.heap.size w w' := by
  go_enter Tryd.func33, Tryd.ntmps33
  go_wp2
  exact bodyPost_ret (v := .agg #[.int .i64 0, .int .i64 0, .int .i64 0]) (by simp [results, Tryd.results33, go_sem]) rfl ⟨rfl, (Below.refl _ _).alloc (Nat.le_refl _) _⟩
end Go.Proofs.YtjdmaindoohmkaaDoor
