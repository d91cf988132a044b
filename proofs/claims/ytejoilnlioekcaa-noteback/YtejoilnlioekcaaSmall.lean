/-
  The small functions (bracketsOf, mayStand, isText; the reference's right and Check; Begins of both; Pick), walked.
-/
import Derived.Test.YtejoilnlioekcaaRows
import Derived.Test.YtejoilnlioekcaaShelf
import Derived.Test.YtejoilnlioekcaaTxt
import Derived.WalkKit
import Derived.WalkSpells
import Derived.WalkLawsBesides
import Derived.BigQuiet
import Derived.Deep.QuietTactic
import Derived.Lib.Hide
import Derived.Lib.OthersKept
import Derived.IntWalk
namespace Go.Proofs.Ytejoilnlioekcaa
open Go.RowKit

theorem ret_bool {a b : Bool} (h : a = b) : Ending.returned (.bool a) = .returned (.bool b) := by rw [h]
theorem brackets_0 (w : World) :
    Calls Try.prog 20 #[.int .i64 0] w fun e w' => e = .returned (.tuple #[.agg #[.string (opA 0), .string (clA 0)], .bool true]) ∧ Below w.heap.size w w' := by
  rw [opA_0, clA_0]
  go_enter Try.func20, Try.ntmps20
  go_wp2
  exact bodyPost_ret (v := .tuple #[.agg #[.string ⟨#[123]⟩, .string ⟨#[125]⟩], .bool true]) (by simp [results, Try.results20, go_sem]) rfl ⟨rfl, (Below.refl _ _).alloc (Nat.le_refl _) _⟩
theorem brackets_1 (w : World) :
    Calls Try.prog 20 #[.int .i64 1] w fun e w' => e = .returned (.tuple #[.agg #[.string (opA 1), .string (clA 1)], .bool true]) ∧ Below w.heap.size w w' := by
  rw [opA_1, clA_1]
  go_enter Try.func20, Try.ntmps20
  go_wp2
  exact bodyPost_ret (v := .tuple #[.agg #[.string ⟨#[47, 42]⟩, .string ⟨#[42, 47]⟩], .bool true]) (by simp [results, Try.results20, go_sem]) rfl ⟨rfl, (Below.refl _ _).alloc (Nat.le_refl _) _⟩
theorem brackets_yes (d : Int) (hd : Dia d) (w : World) :
    Calls Try.prog 20 #[.int .i64 d] w fun e w' => e = .returned (.tuple #[.agg #[.string (opA d), .string (clA d)], .bool true]) ∧ Below w.heap.size w w' := by
  rcases hd with rfl | rfl
  · exact brackets_0 w
  · exact brackets_1 w
theorem brackets_no (d : Int) (hd : ¬ Dia d) (w : World) :
    Calls Try.prog 20 #[.int .i64 d] w fun e w' => e = .returned (.tuple #[.agg #[.string ⟨#[]⟩, .string ⟨#[]⟩], .bool false]) ∧ Below w.heap.size w w' := by
  have h0 : (d == 0) = false := by unfold Dia at hd; simp; omega
  have h1 : (d == 1) = false := by unfold Dia at hd; simp; omega
  clear hd
  go_enter Try.func20, Try.ntmps20
  go_wp2
  exact bodyPost_ret (v := .tuple #[.agg #[.string ⟨#[]⟩, .string ⟨#[]⟩], .bool false]) (by simp [results, Try.results20, go_sem]) rfl ⟨rfl, (Below.refl _ _).alloc (Nat.le_refl _) _⟩

theorem may_any (r : Int) (w : World) :
    Calls Try.prog 29 #[.int .i32 r] w fun e w' => e = .returned (.bool (okZ r)) ∧ w = w' := by
  go_enter Try.func29, Try.ntmps29
  go_wp2
  all_goals go_ret
  all_goals refine ⟨ret_bool ?_, rfl⟩
  all_goals unfold okZ
  all_goals simp_all
  omega
theorem right_any (c : Int) (w : World) :
    Calls Try.prog 27 #[.int .u8 c] w fun e w' => e = .returned (.bool (okZ c)) ∧ w = w' := by
  go_enter Try.func27, Try.ntmps27
  go_wp2
  all_goals go_ret
  all_goals refine ⟨ret_bool ?_, rfl⟩
  all_goals unfold okZ
  all_goals simp_all
  omega

theorem all_take (s : ByteArray) (k : Nat) (h : k < s.size) : (s.data.toList.take (k + 1)).all okB = ((s.data.toList.take k).all okB && okB (bt s k)) := by
  rw [take_bt s k h, List.all_append]; simp
theorem all_bad (s : ByteArray) (k : Nat) (h : k < s.size) (hc : okB (bt s k) = false) : s.data.toList.all okB = false := by
  rw [← List.take_append_drop k s.data.toList, List.all_append, drop_bt s k h, List.all_cons, hc]; simp
theorem all_end (s : ByteArray) (k : Nat) (h : ¬ k < s.size) (ha : (s.data.toList.take k).all okB = true) : s.data.toList.all okB = true := by
  rwa [List.take_of_length_le (by simp; omega)] at ha
theorem high_bad (n : Nat) (h : 128 ≤ n) : okZ n = false := by
  unfold okZ; simp; omega
set_option maxHeartbeats 400000 in
theorem check_any (s : ByteArray) (w : World) (hs : s.size ≤ maxLen) :
    Calls Try.prog 11 #[.string s] w fun e w' => e = .returned (.int .i64 (checkL s.data.toList : Nat)) ∧ w = w' := by
  unfold maxLen at hs
  have hl := len_size s
  by_cases hb : 1024 < s.size
  · have e : checkL s.data.toList = 3 := by unfold checkL; rw [if_pos (by omega)]
    rw [e]
    clear hl e
    go_enter Try.func11, Try.ntmps11
    go_wp2
    go_ret
    exact ⟨rfl, rfl⟩
  · have E : Hid (∀ b, s.data.toList.all okB = b → checkL s.data.toList = if b = false then 8 else 0) := Lib.hid (by
      intro b hb2; unfold checkL; rw [if_neg (by omega), hb2])
    clear hl
    go_enter Try.func11, Try.ntmps11
    go_wp2
    go_loop [3] (fun i => ∃ k : Nat, k ≤ s.size ∧ i = .int .i64 k ∧ (s.data.toList.take k).all okB = true) (fun i => s.size - (intOf i).toNat)
    case atStart => exact ⟨0, Nat.zero_le _, rfl, rfl⟩
    case round =>
      obtain ⟨k, hk, rfl, ha⟩ := hrel
      have A := Lib.hid ha
      clear ha
      by_cases hlt : k < s.size
      · have HB := Lib.hid (bt_eq s k hlt)
        cases hc : okB (bt s k) with
        | true =>
          have H := Lib.hid hc
          clear hc
          go_wp2_with fail
          refine (right_any _ _).mono ?_
          rw [HB.out, show okZ ((bt s k).toNat : Int) = true from H.out]
          rintro e w' ⟨rfl, rfl⟩
          go_wp2
          go_round
          case rel => exact ⟨k + 1, by omega, by go_num, by rw [all_take s k hlt, A.out, H.out]; rfl⟩
          case measure => simp [intOf]; omega
        | false =>
          have H := Lib.hid hc
          clear hc
          go_wp2_with fail
          refine (right_any _ _).mono ?_
          rw [HB.out, show okZ ((bt s k).toNat : Int) = false from H.out]
          rintro e w' ⟨rfl, rfl⟩
          go_wp2
          go_ret
          rw [E.out false (all_bad s k hlt H.out)]
          exact ⟨rfl, rfl⟩
      · go_wp2
        go_ret
        rw [E.out true (all_end s k hlt A.out)]
        exact ⟨rfl, rfl⟩
end Go.Proofs.Ytejoilnlioekcaa
