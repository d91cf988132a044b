/-
  The document's texts of numbers and characters, walked.
-/
import Derived.Test.YtpcldpnaljheoaaGreatDoorPd8
import Derived.Lib.AppendIntMem
import Derived.Laws.IdiomStrings
namespace Go.Proofs.YtpcldpnaljheoaaGreatDoor
open Go.RowKit

theorem dig_piece (d : Nat) (h : d < 10) : (ByteArray.mk #[48, 49, 50, 51, 52, 53, 54, 55, 56, 57]).extract d (d + 1) = ⟨[UInt8.ofNat (48 + d)].toArray⟩ := by
  have : ∀ d : Fin 10, (ByteArray.mk #[48, 49, 50, 51, 52, 53, 54, 55, 56, 57]).extract d.1 (d.1 + 1) = ⟨[UInt8.ofNat (48 + d.1)].toArray⟩ := by decide
  exact this ⟨d, h⟩

theorem dd_len (u : Nat) : (Lib.decDigits u).length ≤ u + 1 := by
  induction u using Nat.strongRecOn with
  | ind u ih =>
    by_cases h : u < 10
    · rw [Lib.decDigits_one h]; simp
    · rw [Lib.decDigits, dif_neg h]
      have := ih (u / 10) (by omega)
      simp; omega

theorem dd_len2 (u : Nat) (h : 10 ≤ u) : (Lib.decDigits u).length + 5 ≤ u := by
  rw [Lib.decDigits, dif_neg (by omega)]
  have := dd_len (u / 10)
  simp; omega
set_option maxHeartbeats 400000 in
theorem long_any (m : Nat) : ∀ (a : Int) (w : World), 0 ≤ a → a ≤ (m : Int) + 9 → a ≤ 9223372036854775808 →
    Calls Tryz.prog 100 #[.int .u64 a] w fun e w' => e = .returned (.string ⟨(Lib.decDigits a.toNat).toArray⟩) ∧ ∃ k, w' = w.drewN k := by
  have small : ∀ (a : Int) (w : World), 0 ≤ a → a < 10 →
    Calls Tryz.prog 100 #[.int .u64 a] w fun e w' => e = .returned (.string ⟨(Lib.decDigits a.toNat).toArray⟩) ∧ ∃ k, w' = w.drewN k := by
    intro a w h0 hlt
    obtain ⟨n, rfl⟩ := Int.eq_ofNat_of_zero_le h0
    rw [Int.toNat_natCast, Lib.decDigits_one (by omega), ← dig_piece n (by omega)]
    go_enter Tryz.func100, Tryz.ntmps100
    go_wp2_with fail
    go_ret
    exact ⟨rfl, 0, rfl⟩
  induction m with
  | zero =>
    intro a w h0 hn hm
    exact small a w h0 (by omega)
  | succ m ih =>
    intro a w h0 hn hm
    by_cases hlt : a < 10
    · exact small a w h0 hlt
    · obtain ⟨n, rfl⟩ := Int.eq_ofNat_of_zero_le h0
      have e : Lib.decDigits ((n : Int)).toNat = Lib.decDigits (n / 10) ++ [UInt8.ofNat (48 + n % 10)] := by
        rw [Int.toNat_natCast, Lib.decDigits, dif_neg (by omega)]
      have E := Lib.hid e
      have IH := Lib.hid ih
      have S := Lib.hid small
      have h10 : ((n : Int) / 10).toNat = n / 10 := by omega
      have H10 := Lib.hid h10
      clear ih e small h10
      have r0 : IntKind.u64.wrap ((n : Int) / 10) = (n : Int) / 10 := IntWalk.u64_in _ (by omega)
      obtain ⟨d, hd⟩ : ∃ d : Nat, d = n % 10 := ⟨_, rfl⟩
      have r4 : (n : Int).tmod 10 = (d : Int) := by rw [Int.tmod_eq_emod_of_nonneg (by omega)]; omega
      rw [← hd] at E
      have r9 : d < 10 := by omega
      clear hd
      have hsl : ∀ w : World, (Instr.slice 9 (.string ⟨#[48, 49, 50, 51, 52, 53, 54, 55, 56, 57]⟩) (some (.int .u64 (d : Int))) (some (.int .u64 ((d : Int) + 1))) none).run Tryz.prog w = .ok (.string ⟨[UInt8.ofNat (48 + d)].toArray⟩) w := fun w => by
        rw [run_slice_string w 9 _ _ _ _ _ Tryz.underlying9 (by omega) (by omega) (show (d : Int) + 1 ≤ ((10 : Nat) : Int) by omega), show ((d : Int) + 1).toNat = d + 1 by omega, Int.toNat_natCast, dig_piece d r9]
      have hadd : ∀ w : World, (Op.stringOp .add ⟨(Lib.decDigits ((n : Int) / 10).toNat).toArray⟩ ⟨#[48 + UInt8.ofNat d]⟩).run Tryz.prog w = .ok (.string ⟨(Lib.decDigits ((n : Int)).toNat).toArray⟩) w := fun w => by
        have hl := dd_len ((n : Int) / 10).toNat
        have hsz : (ByteArray.mk (Lib.decDigits ((n : Int) / 10).toNat).toArray).size + (ByteArray.mk #[48 + UInt8.ofNat d]).size ≤ 9223372036854775807 := by
          show (Lib.decDigits ((n : Int) / 10).toNat).toArray.size + 1 ≤ _
          rw [List.size_toArray]
          omega
        rw [run_string_add_sum w _ _ hsz, E.out, H10.out, show UInt8.ofNat (48 + d) = 48 + UInt8.ofNat d from by simp]
        exact congrArg (fun b => Result.ok (Value.string b) w) (ByteArray.mk_append_mk _ [48 + UInt8.ofNat d])
      have r1 : IntKind.u64.wrap ((d : Int) + 1) = (d : Int) + 1 := IntWalk.u64_in _ (by omega)
      go_enter Tryz.func100, Tryz.ntmps100
      go_wp2_with fail
      go_quiet ((go_at_call 100; refine (IH.out _ _ (by omega) (by omega) (by omega)).mono ?_; rintro e w' ⟨rfl, k, rfl⟩; exact ⟨rfl, _, World.drewN_drewN ..⟩))
      go_wp2_with fail
      go_ret
      exact ⟨rfl, _, rfl⟩

set_option maxHeartbeats 400000 in
theorem refDigits_pos (n : Int) (w : World) (h0 : 0 ≤ n) (h1 : n ≤ 9223372036854775807) :
    Calls Tryz.prog 56 #[.int .i64 n] w fun e w' => e = .returned (.string ⟨(Lib.itoa n).toArray⟩) ∧ ∃ k, w' = w.drewN k := by
  have e : Lib.itoa n = Lib.decDigits n.toNat := by unfold Lib.itoa; rw [if_neg (by omega)]
  rw [e]
  clear e
  go_enter Tryz.func56, Tryz.ntmps56
  go_wp2_with fail
  refine (long_any n.toNat n _ h0 (by omega) (by omega)).mono ?_
  rintro e w' ⟨rfl, k, rfl⟩
  go_wp2_with fail
  go_ret
  exact ⟨rfl, _, rfl⟩

theorem str_ret {a b : ByteArray} (h : a = b) : Ending.returned (.string a) = .returned (.string b) := by rw [h]
theorem cat_l (a b : List UInt8) : (ByteArray.mk a.toArray) ++ (ByteArray.mk b.toArray) = ByteArray.mk (a ++ b).toArray := by
  apply ByteArray.ext
  simp
theorem itoa_nat (n : Nat) : Lib.itoa (n : Int) = Lib.decDigits n := by unfold Lib.itoa; rw [if_neg (by omega)]; rfl
theorem char_39 {n : Nat} (_h : n = 39) : charP (n : Int) = [39, 39, 39, 39] := by unfold charP; rw [if_pos (by omega)]
theorem char_vis {n : Nat} (_h : n ≠ 39) (h1 : 32 ≤ n) (h2 : n ≤ 126) : charP (n : Int) = [39, UInt8.ofNat n, 39] := by unfold charP; rw [if_neg (by omega), if_pos (by omega)]; rfl
theorem char_num {n : Nat} (_h : n ≠ 39) (h1 : ¬ (32 ≤ n ∧ n ≤ 126)) : charP (n : Int) = 35 :: Lib.decDigits n := by
  unfold charP
  rw [if_neg (by omega), if_neg (by omega), itoa_nat]
theorem cell_new' (w : World) (cs : Array Value) (T : TypeId) (i : Nat) : (w.alloc (.cells cs T)).cell? ⟨w.heap.size, i, none⟩ = cs[i]? := box_cells (heap_new w _) i
set_option maxHeartbeats 1000000 in
theorem charText_any (n : Nat) (w : World) (hn : n ≤ 255) : Calls Tryz.prog 57 #[.int .i64 0, .int .i64 (n : Int)] w fun e w' => e = .returned (.string ⟨(charP (n : Int)).toArray⟩) ∧ Below w.heap.size w w' := by
  have hw : IntKind.u8.wrap (n : Int) = (n : Int) := IntWalk.u8_in _ (by omega)
  have h0 : (0 : Int) ≤ (n : Int) := by omega
  have h1 : (n : Int) ≤ 255 := by omega
  have hdz : (ByteArray.mk (Lib.decDigits n).toArray).size ≤ 3 := by show (Lib.decDigits n).toArray.size ≤ 3; rw [List.size_toArray]; exact dd_small n (by omega)
  by_cases h39 : n = 39
  · rw [char_39 h39]
    subst h39
    go_enter Tryz.func57, Tryz.ntmps57
    go_wp2_with fail
    go_ret
    exact ⟨rfl, Below.refl _ _⟩
  · have d1 : ((n : Int) == 39) = false := by simp; omega
    by_cases hv : 32 ≤ n ∧ n ≤ 126
    · rw [char_vis h39 hv.1 hv.2]
      have d2 : decide ((32 : Int) ≤ (n : Int)) = true := by simp; omega
      have d3 : decide ((n : Int) ≤ 126) = true := by simp; omega
      have hcv := run_convert_bytes_back (P := Tryz.prog) (w.alloc (.cells #[.int .u8 (n : Int)] 5)) 142 9 5 ⟨w.heap.size, 0, none⟩ 1 [UInt8.ofNat n] Tryz.underlying142 Tryz.underlying5 Tryz.underlying9 (fun j hj => by
        have hj0 : j = 0 := by simp at hj; exact hj
        subst hj0
        rw [add_mid2, cell_new']
        show some (Value.int .u8 (n : Int)) = some (Value.int .u8 ((UInt8.ofNat n).toNat : Int))
        rw [show (UInt8.ofNat n).toNat = n by simp; omega])
      rw [show [UInt8.ofNat n].length = 1 from rfl] at hcv
      clear h39 hv
      go_enter Tryz.func57, Tryz.ntmps57
      go_wp2_with fail
      go_ret
      exact ⟨str_ret rfl, (Below.refl _ _).alloc (Nat.le_refl _) _⟩
    · rw [char_num h39 hv]
      by_cases h32 : 32 ≤ n
      · have d2 : decide ((32 : Int) ≤ (n : Int)) = true := by simp; omega
        have d3 : decide ((n : Int) ≤ 126) = false := by simp; omega
        clear h39 hv
        go_enter Tryz.func57, Tryz.ntmps57
        go_wp2_with fail
        refine (refDigits_pos (n : Int) _ (by omega) (by omega)).mono ?_
        rw [itoa_nat]
        generalize hD : (ByteArray.mk (Lib.decDigits n).toArray) = D at hdz ⊢
        have HD := Lib.hid hD
        clear hD
        rintro e w1 ⟨rfl, m, rfl⟩
        go_wp2_with fail
        go_ret
        rw [← HD.out]
        exact ⟨str_ret (cat_l [35] _), below_drewN (Below.refl _ _) _⟩
      · have d2 : decide ((32 : Int) ≤ (n : Int)) = false := by simp; omega
        clear h39 hv
        go_enter Tryz.func57, Tryz.ntmps57
        go_wp2_with fail
        refine (refDigits_pos (n : Int) _ (by omega) (by omega)).mono ?_
        rw [itoa_nat]
        generalize hD : (ByteArray.mk (Lib.decDigits n).toArray) = D at hdz ⊢
        have HD := Lib.hid hD
        clear hD
        rintro e w1 ⟨rfl, m, rfl⟩
        go_wp2_with fail
        go_ret
        rw [← HD.out]
        exact ⟨str_ret (cat_l [35] _), below_drewN (Below.refl _ _) _⟩
set_option maxHeartbeats 2000000 in
theorem rText_3 (n : Nat) (hn : n ≤ 9223372036854775807) (w : World) :
    Calls Tryz.prog 31 #[.int .i64 0, .agg #[.int .i64 3, .string ⟨#[]⟩, .int .i64 (n : Nat), .bool false, .int .i64 0, .int .i64 0, .int .i64 0]] w fun e w' => e = .returned (.string ⟨(Lib.itoa (n : Int)).toArray⟩) ∧ Below w.heap.size w w' := by
  go_enter Tryz.func31, Tryz.ntmps31
  go_wp2_with fail
  refine (refDigits_pos (n : Int) _ (by omega) (by omega)).mono ?_
  rintro e w1 ⟨rfl, m, rfl⟩
  go_wp2_with fail
  go_ret
  exact ⟨rfl, below_drewN ((Below.refl _ _).alloc (Nat.le_refl _) _) _⟩
set_option maxHeartbeats 2000000 in
theorem rText_4 (n : Nat) (hn : n ≤ 255) (w : World) :
    Calls Tryz.prog 31 #[.int .i64 0, .agg #[.int .i64 4, .string ⟨#[]⟩, .int .i64 (n : Nat), .bool false, .int .i64 0, .int .i64 0, .int .i64 0]] w fun e w' => e = .returned (.string ⟨(charP (n : Int)).toArray⟩) ∧ Below w.heap.size w w' := by
  go_enter Tryz.func31, Tryz.ntmps31
  go_wp2_with fail
  refine (charText_any n _ hn).mono ?_
  rintro e w1 ⟨rfl, b1⟩
  have B1 := Lib.hid (((Below.refl w.heap.size w).alloc (Nat.le_refl _) _).trans (b1.mono (by simp)))
  clear b1
  go_wp2_with fail
  go_ret
  exact ⟨rfl, B1.out⟩
end Go.Proofs.YtpcldpnaljheoaaGreatDoor
