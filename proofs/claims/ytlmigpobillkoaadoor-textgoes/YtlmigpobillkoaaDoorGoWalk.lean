/-
  TextGoes, walked.
-/
import Derived.Test.YtlmigpobillkoaaDoorAwake
import Derived.Test.YtlmigpobillkoaaDoorGo
namespace Go.Proofs.YtlmigpobillkoaaDoor
open Go.RowKit

/-- A slice of acts that came in. -/
def IsActs (w : World) (a : Option Addr) (len cap : Nat) : Prop :=
  len ≤ cap ∧ cap ≤ maxLen ∧ (len = 0 ∨ ∃ b o, a = some ⟨b, o, none⟩ ∧ b < w.heap.size ∧ ∀ j, j < len → ∃ (k n : Int) (x : ByteArray), w.cell? ⟨b, o + j * 3, none⟩ = some (.int .i64 k) ∧ w.cell? ⟨b, o + j * 3 + 1, none⟩ = some (.int .i64 n) ∧ w.cell? ⟨b, o + j * 3 + 2, none⟩ = some (.string x) ∧ -9223372036854775808 ≤ k ∧ k ≤ 9223372036854775807 ∧ -9223372036854775808 ≤ n ∧ n ≤ 9223372036854775807 ∧ x.size ≤ maxLen)

theorem below_drewN {B : Nat} {a w : World} (h : Below B a w) (n : Nat) : Below B a (w.drewN n) := ⟨h.os, h.tape, h.output, h.size, h.block⟩

set_option maxRecDepth 100000 in
set_option maxHeartbeats 4000000 in
theorem textGoes_walk (s : ByteArray) (a : Option Addr) (len cap : Nat) (w : World) (hs : s.size ≤ maxLen) (hS : IsActs w a len cap) (htab : Lib.TabIs Tryd.prog w "internal/strconv.uint64pow10" .u64 Lib.pow10Tab) :
    Calls Tryd.prog 3 #[.string s, .slice a len cap] w fun e w' => e = .returned (.bool true) ∧ Below w.heap.size w w' := by
  have T := Lib.hid htab
  clear htab
  obtain ⟨hlc, hcm, hcells⟩ := hS
  by_cases hl2 : (5000 : Int) < (s.size : Int)
  · clear hlc hcm hcells
    go_enter Tryd.func3, Tryd.ntmps3
    go_wp2_with fail
    refine (awake_any _ T.out).mono ?_
    rintro e w' ⟨rfl, b⟩
    have B := Lib.hid b
    clear b
    go_wp2_with fail
    go_ret
    exact ⟨rfl, B.out⟩
  · have HC := Lib.hid hcells
    clear hcells
    unfold maxLen at hcm
    go_enter Tryd.func3, Tryd.ntmps3
    go_wp2_with fail
    refine (new2 s _).mono ?_
    rintro e w1 ⟨rfl, c1, b1⟩
    have C1 := Lib.hid c1
    have B1 := Lib.hid b1
    clear c1 b1
    go_wp2_with fail
    go_loopw [6, 7] (fun at_ i wr => ∃ i' k : Nat, i' ≤ len ∧ i = .int .i64 i' ∧ at_ = .int .i64 k ∧ CurAt wr w.heap.size s k ∧ Below w.heap.size w wr) (fun _ i _ => len - (intOf i).toNat)
    case atStart => exact ⟨0, 0, Nat.zero_le _, rfl, rfl, C1.out, B1.out⟩
    case round =>
      obtain ⟨i, k, hil, rfl, rfl, hck, hbk⟩ := hrel
      have hle := hck.le
      have CK := Lib.hid hck
      have BK := Lib.hid hbk
      clear hck hbk
      by_cases hgo : i < len ∧ i < 100
      · obtain ⟨hi1, hi2⟩ := hgo
        have hi2' : (i : Int) < 100 := by omega
        obtain ⟨bb, oo, rfl, hbb, hcell⟩ : ∃ b o, a = some ⟨b, o, none⟩ ∧ b < w.heap.size ∧ ∀ j, j < len → ∃ (k n : Int) (x : ByteArray), w.cell? ⟨b, o + j * 3, none⟩ = some (.int .i64 k) ∧ w.cell? ⟨b, o + j * 3 + 1, none⟩ = some (.int .i64 n) ∧ w.cell? ⟨b, o + j * 3 + 2, none⟩ = some (.string x) ∧ -9223372036854775808 ≤ k ∧ k ≤ 9223372036854775807 ∧ -9223372036854775808 ≤ n ∧ n ≤ 9223372036854775807 ∧ x.size ≤ maxLen := by
          rcases HC.out with h | h
          · omega
          · exact h
        obtain ⟨kd, n, x, g0, g1, g2, kd0, kd1, n0, n1, hx⟩ := hcell i hi1
        rw [← BK.out.cell (p := ⟨bb, oo + i * 3, none⟩) hbb] at g0
        rw [← BK.out.cell (p := ⟨bb, oo + i * 3 + 1, none⟩) hbb] at g1
        rw [← BK.out.cell (p := ⟨bb, oo + i * 3 + 2, none⟩) hbb] at g2
        have HCE := Lib.hid hcell
        clear hcell
        go_wp2_with fail
        obtain ⟨w2, hw2⟩ : ∃ w2, w2 = wr.alloc (.cells #[.int .i64 kd, .int .i64 n, .string x] 27) := ⟨_, rfl⟩
        have hA : w2.heap[wr.heap.size]? = some (.cells #[.int .i64 kd, .int .i64 n, .string x] 27) := by rw [hw2, heap_new]
        have b2 : Below wr.heap.size wr w2 := by rw [hw2]; exact (Below.refl _ _).alloc (Nat.le_refl _) _
        rw [← hw2]
        clear hw2 g0 g1 g2
        have e1 : w2.cell? ⟨wr.heap.size, 1, none⟩ = some (.int .i64 n) := by simp [World.cell?, hA]
        have e2 : w2.cell? ⟨wr.heap.size, 2, none⟩ = some (.string x) := by simp [World.cell?, hA]
        have hlt2 := CK.out.lt
        have C2 := Lib.hid (CK.out.stays (b2.block _ CK.out.lt))
        have B2 := Lib.hid (BK.out.trans (b2.mono BK.out.size))
        clear hA b2
        refine (pick_any kd 4 _ kd0 kd1 (by omega) (by omega)).mono ?_
        have p0 := Int.emod_nonneg kd (show (4 : Int) ≠ 0 by omega)
        have p1 := Int.emod_lt_of_pos kd (show (0 : Int) < 4 by omega)
        generalize kd % 4 = m at *
        rintro e w' ⟨rfl, rfl⟩
        have hm : m = 0 ∨ m = 1 ∨ m = 2 ∨ m = 3 := by omega
        rcases hm with rfl | rfl | rfl | rfl
        · clear p0 p1
          by_cases hn0 : n < 0
          · have hd0 : decide (0 ≤ n) = false := by simp; omega
            go_wp2_with fail
            refine (peek_neg w.heap.size n _ hn0).mono ?_
            rintro e w3 ⟨rfl, q3, rfl⟩
            have C3 := Lib.hid (C2.out.drewN q3)
            have B3 := Lib.hid (below_drewN B2.out q3)
            go_wp2_with fail
            refine (pos_any w.heap.size k s _ C3.out).mono ?_
            rintro e wp ⟨rfl, bp⟩
            have CP := Lib.hid (C3.out.stays (bp.block _ C3.out.lt))
            have BP := Lib.hid (B3.out.trans (bp.mono B3.out.size))
            clear bp
            go_wp2_with fail
            refine (refAt_any s _ _ hs).mono ?_
            rw [show skipN ((k : Nat) : Int) 0 s = k from by unfold skipN; omega]
            unfold posV
            rintro e wq ⟨rfl, bq⟩
            have CQ := Lib.hid (CP.out.stays (bq.block _ CP.out.lt))
            have BQ := Lib.hid (BP.out.trans (bq.mono BP.out.size))
            clear bq
            go_wp2_with fail
            go_roundw
            case rel => exact ⟨i + 1, k, by omega, by go_num, by go_num, CQ.out, BQ.out⟩
            case measure => simp [intOf]; omega
          · obtain ⟨nn, rfl⟩ := Int.eq_ofNat_of_zero_le (show 0 ≤ n by omega)
            have hd0 : decide (0 ≤ (nn : Int)) = true := by simp
            have h0 := C2.out.c0
            have h1 := C2.out.c1
            by_cases hn1 : (nn : Int) < (s.size : Int) - k
            · have hd1 : decide ((nn : Int) < (s.size : Int) - k) = true := by simpa using hn1
              have hlt : k + nn < s.size := by omega
              have hb := bt_eq s (k + nn) hlt
              go_wp2_with fail
              refine (peek_in w.heap.size k (nn : Int) s _ h0 h1 hs hle (by omega) hn1).mono ?_
              rw [Int.toNat_natCast]
              rintro e w3 ⟨rfl, q3, rfl⟩
              have C3 := Lib.hid (C2.out.drewN q3)
              have B3 := Lib.hid (below_drewN B2.out q3)
              clear h0 h1
              go_wp2_with fail
              refine (pos_any w.heap.size k s _ C3.out).mono ?_
              rintro e wp ⟨rfl, bp⟩
              have CP := Lib.hid (C3.out.stays (bp.block _ C3.out.lt))
              have BP := Lib.hid (B3.out.trans (bp.mono B3.out.size))
              clear bp
              go_wp2_with fail
              refine (refAt_any s _ _ hs).mono ?_
              rw [show skipN ((k : Nat) : Int) 0 s = k from by unfold skipN; omega]
              unfold posV
              rintro e wq ⟨rfl, bq⟩
              have CQ := Lib.hid (CP.out.stays (bq.block _ CP.out.lt))
              have BQ := Lib.hid (BP.out.trans (bq.mono BP.out.size))
              clear bq
              go_wp2_with fail
              go_roundw
              case rel => exact ⟨i + 1, k, by omega, by go_num, by go_num, CQ.out, BQ.out⟩
              case measure => simp [intOf]; omega
            · have hd1 : decide ((nn : Int) < (s.size : Int) - k) = false := by simp; omega
              go_wp2_with fail
              refine (peek_out w.heap.size k (nn : Int) s _ h0 h1 hs hle (by omega) (by omega)).mono ?_
              rintro e w3 ⟨rfl, q3, rfl⟩
              have C3 := Lib.hid (C2.out.drewN q3)
              have B3 := Lib.hid (below_drewN B2.out q3)
              clear h0 h1
              go_wp2_with fail
              refine (pos_any w.heap.size k s _ C3.out).mono ?_
              rintro e wp ⟨rfl, bp⟩
              have CP := Lib.hid (C3.out.stays (bp.block _ C3.out.lt))
              have BP := Lib.hid (B3.out.trans (bp.mono B3.out.size))
              clear bp
              go_wp2_with fail
              refine (refAt_any s _ _ hs).mono ?_
              rw [show skipN ((k : Nat) : Int) 0 s = k from by unfold skipN; omega]
              unfold posV
              rintro e wq ⟨rfl, bq⟩
              have CQ := Lib.hid (CP.out.stays (bq.block _ CP.out.lt))
              have BQ := Lib.hid (BP.out.trans (bq.mono BP.out.size))
              clear bq
              go_wp2_with fail
              go_roundw
              case rel => exact ⟨i + 1, k, by omega, by go_num, by go_num, CQ.out, BQ.out⟩
              case measure => simp [intOf]; omega
        · clear p0 p1
          by_cases hin : k < s.size
          · have hd0 : decide ((k : Int) < (s.size : Int)) = true := by simp; omega
            have hb := bt_eq s k hin
            go_wp2_with fail
            refine (next_in w.heap.size k s _ C2.out hs hin).mono ?_
            rintro e w3 ⟨rfl, c3, o3⟩
            have C3 := Lib.hid c3
            have B3 := Lib.hid (B2.out.trans (o3.below (B := w.heap.size) (Nat.le_refl _) B2.out.size))
            clear c3 o3
            go_wp2_with fail
            refine (pos_any w.heap.size (k + 1) s _ C3.out).mono ?_
            rintro e wp ⟨rfl, bp⟩
            have CP := Lib.hid (C3.out.stays (bp.block _ C3.out.lt))
            have BP := Lib.hid (B3.out.trans (bp.mono B3.out.size))
            clear bp
            go_wp2_with fail
            refine (refAt_any s _ _ hs).mono ?_
            rw [show skipN ((k : Int) + 1) 0 s = (k + 1) from by unfold skipN; omega]
            unfold posV
            rintro e wq ⟨rfl, bq⟩
            have CQ := Lib.hid (CP.out.stays (bq.block _ CP.out.lt))
            have BQ := Lib.hid (BP.out.trans (bq.mono BP.out.size))
            clear bq
            go_wp2_with fail
            go_roundw
            case rel => exact ⟨i + 1, (k + 1), by omega, by go_num, by go_num, CQ.out, BQ.out⟩
            case measure => simp [intOf]; omega
          · have hd0 : decide ((k : Int) < (s.size : Int)) = false := by simp; omega
            go_wp2_with fail
            refine (next_out w.heap.size k s _ C2.out hs (by omega)).mono ?_
            rintro e w3 ⟨rfl, q3, rfl⟩
            have C3 := Lib.hid (C2.out.drewN q3)
            have B3 := Lib.hid (below_drewN B2.out q3)
            go_wp2_with fail
            refine (pos_any w.heap.size k s _ C3.out).mono ?_
            rintro e wp ⟨rfl, bp⟩
            have CP := Lib.hid (C3.out.stays (bp.block _ C3.out.lt))
            have BP := Lib.hid (B3.out.trans (bp.mono B3.out.size))
            clear bp
            go_wp2_with fail
            refine (refAt_any s _ _ hs).mono ?_
            rw [show skipN ((k : Nat) : Int) 0 s = k from by unfold skipN; omega]
            unfold posV
            rintro e wq ⟨rfl, bq⟩
            have CQ := Lib.hid (CP.out.stays (bq.block _ CP.out.lt))
            have BQ := Lib.hid (BP.out.trans (bq.mono BP.out.size))
            clear bq
            go_wp2_with fail
            go_roundw
            case rel => exact ⟨i + 1, k, by omega, by go_num, by go_num, CQ.out, BQ.out⟩
            case measure => simp [intOf]; omega
        · clear p0 p1
          have hd1 : skipN n k s ≤ s.size - k := by unfold skipN; omega
          have hd2 : max 0 (min n ((s.size : Int) - k)) = (skipN n k s : Int) := by unfold skipN; omega
          generalize hdd : skipN n k s = d at *
          have D := Lib.hid hdd
          clear hdd
          go_wp2_with fail
          refine (skip_any w.heap.size k n s _ C2.out hs).mono ?_
          rw [D.out]
          rintro e w3 ⟨rfl, c3, o3⟩
          have C3 := Lib.hid c3
          have B3 := Lib.hid (B2.out.trans (o3.below (B := w.heap.size) (Nat.le_refl _) B2.out.size))
          clear c3 o3 hd2
          go_wp2_with fail
          refine (pos_any w.heap.size (k + d) s _ C3.out).mono ?_
          rintro e wp ⟨rfl, bp⟩
          have CP := Lib.hid (C3.out.stays (bp.block _ C3.out.lt))
          have BP := Lib.hid (B3.out.trans (bp.mono B3.out.size))
          clear bp
          go_wp2_with fail
          refine (refAt_any s _ _ hs).mono ?_
          rw [show skipN ((k : Int) + (d : Int)) 0 s = (k + d) from by unfold skipN; omega]
          unfold posV
          rintro e wq ⟨rfl, bq⟩
          have CQ := Lib.hid (CP.out.stays (bq.block _ CP.out.lt))
          have BQ := Lib.hid (BP.out.trans (bq.mono BP.out.size))
          clear bq
          go_wp2_with fail
          go_roundw
          case rel => exact ⟨i + 1, (k + d), by omega, by go_num, by go_num, CQ.out, BQ.out⟩
          case measure => simp [intOf]; omega
        · clear p0 p1
          obtain ⟨wo, rfl⟩ : ∃ wo : World, wo = wr := ⟨_, rfl⟩
          go_wp2_with fail
          go_loopw [6] (fun at_ wl => ∃ j q : Nat, at_ = .int .i64 j ∧ k ≤ j ∧ j ≤ s.size ∧ whEnd x s k = whEnd x s j ∧ wl = w2.drewN q) (fun at_ _ => s.size - (intOf at_).toNat)
          case atStart => exact ⟨k, 0, rfl, Nat.le_refl _, hle, rfl, rfl⟩
          case round =>
            obtain ⟨j, q, rfl, hkj, hjs, hwe, hwq⟩ := hrel
            have HW := Lib.hid hwe
            have e3 : wr.cell? ⟨wo.heap.size, 2, none⟩ = some (.string x) := by rw [hwq]; exact e2
            have C3 := Lib.hid (show CurAt wr w.heap.size s k by rw [hwq]; exact C2.out.drewN q)
            have B3 := Lib.hid (show Below w.heap.size w wr by rw [hwq]; exact below_drewN B2.out q)
            have WQ := Lib.hid hwq
            clear hwe hwq e1 e2
            by_cases hin : j < s.size
            · have hd0 : decide ((j : Int) < (s.size : Int)) = true := by simp; omega
              have hb := bt_eq s j hin
              cases hh : holds x s j with
              | true =>
                have HW2 := Lib.hid (HW.out.trans (whEnd_in x s j hin hh))
                unfold holds at hh
                rw [← hb] at hh
                clear hb
                go_wp2_with fail
                go_quiet ((go_at_call 17; exact Calls.quiet_of_same (has_any x _ _ hx)))
                go_wp2_with fail
                go_roundw
                case rel => exact ⟨j + 1, q + nq, by go_num, by omega, by omega, HW2.out, by rw [WQ.out]; exact World.drewN_drewN ..⟩
                case measure => simp [intOf]; omega
              | false =>
                have HW2 := Lib.hid (HW.out.trans (whEnd_out x s j hh))
                unfold holds at hh
                rw [← hb] at hh
                clear hb
                go_wp2_with fail
                go_quiet ((go_at_call 17; exact Calls.quiet_of_same (has_any x _ _ hx)))
                have hz1 : (k : Int) ≤ (j : Int) := by omega
                have hz2 : (j : Int) ≤ (s.size : Int) := by omega
                have e4 : (wr.drewN nq).cell? ⟨wo.heap.size, 2, none⟩ = some (.string x) := e3
                have C4 := Lib.hid (C3.out.drewN nq)
                have B4 := Lib.hid (below_drewN B3.out nq)
                generalize wr.drewN nq = w5 at *
                clear hh e3 C3 B3 WQ
                go_wp2_with fail
                have W := Lib.hid (show ∀ W : World, (∃ m, W = w5.drewN m) → Calls Tryd.prog 18 #[.pointer (some ⟨w.heap.size, 0, none⟩), .string x] W fun e w' => e = .returned (.string (s.extract k j)) ∧ CurAt w' w.heap.size s j ∧ Below w.heap.size w w' ∧ w'.cell? ⟨wo.heap.size, 2, none⟩ = some (.string x) from by
                  rintro W ⟨m, rfl⟩
                  refine (while_any w.heap.size k s x (w5.drewN m) (C4.out.drewN m) hs hx).mono ?_
                  rw [HW2.out]
                  rintro e w' ⟨he, hc, ho⟩
                  exact ⟨he, hc, (below_drewN B4.out m).trans (ho.below (B := w.heap.size) (Nat.le_refl _) B4.out.size), only_cell ho (show wo.heap.size ≠ w.heap.size by omega) e4⟩)
                go_region_held3 (fun w' => w'.cell? ⟨wo.heap.size, 2, none⟩ = some (.string x)) (first | exact e4 | assumption)
                  (first | (go_at_call 18; refine (W.out _ ⟨1, rfl⟩).mono ?_; rintro e w6 ⟨rfl, c6, b6, e6⟩; have C6 := Lib.hid c6; have B6 := Lib.hid b6; clear c6 b6))
                go_wp2_with fail
                refine (pos_any w.heap.size j s _ C6.out).mono ?_
                rintro e wp ⟨rfl, bp⟩
                have CP := Lib.hid (C6.out.stays (bp.block _ C6.out.lt))
                have BP := Lib.hid (B6.out.trans (bp.mono B6.out.size))
                clear bp
                go_wp2_with fail
                refine (refAt_any s _ _ hs).mono ?_
                rw [show skipN ((j : Nat) : Int) 0 s = j from by unfold skipN; omega]
                unfold posV
                rintro e wq ⟨rfl, bq⟩
                have CQ := Lib.hid (CP.out.stays (bq.block _ CP.out.lt))
                have BQ := Lib.hid (BP.out.trans (bq.mono BP.out.size))
                clear bq
                go_wp2_with fail
                go_roundw
                case rel => exact ⟨i + 1, j, by omega, by go_num, by go_num, CQ.out, BQ.out⟩
                case measure => simp [intOf]; omega
            · have hd0 : decide ((j : Int) < (s.size : Int)) = false := by simp; omega
              have HW2 := Lib.hid (HW.out.trans (whEnd_end x s j (by omega)))
              go_wp2_with fail
              go_quiet (fail)
              have hz1 : (k : Int) ≤ (j : Int) := by omega
              have hz2 : (j : Int) ≤ (s.size : Int) := by omega
              have e4 : (wr.drewN nq).cell? ⟨wo.heap.size, 2, none⟩ = some (.string x) := e3
              have C4 := Lib.hid (C3.out.drewN nq)
              have B4 := Lib.hid (below_drewN B3.out nq)
              generalize wr.drewN nq = w5 at *
              clear e3 C3 B3 WQ
              go_wp2_with fail
              have W := Lib.hid (show ∀ W : World, (∃ m, W = w5.drewN m) → Calls Tryd.prog 18 #[.pointer (some ⟨w.heap.size, 0, none⟩), .string x] W fun e w' => e = .returned (.string (s.extract k j)) ∧ CurAt w' w.heap.size s j ∧ Below w.heap.size w w' ∧ w'.cell? ⟨wo.heap.size, 2, none⟩ = some (.string x) from by
                rintro W ⟨m, rfl⟩
                refine (while_any w.heap.size k s x (w5.drewN m) (C4.out.drewN m) hs hx).mono ?_
                rw [HW2.out]
                rintro e w' ⟨he, hc, ho⟩
                exact ⟨he, hc, (below_drewN B4.out m).trans (ho.below (B := w.heap.size) (Nat.le_refl _) B4.out.size), only_cell ho (show wo.heap.size ≠ w.heap.size by omega) e4⟩)
              go_region_held3 (fun w' => w'.cell? ⟨wo.heap.size, 2, none⟩ = some (.string x)) (first | exact e4 | assumption)
                (first | (go_at_call 18; refine (W.out _ ⟨1, rfl⟩).mono ?_; rintro e w6 ⟨rfl, c6, b6, e6⟩; have C6 := Lib.hid c6; have B6 := Lib.hid b6; clear c6 b6))
              go_wp2_with fail
              refine (pos_any w.heap.size j s _ C6.out).mono ?_
              rintro e wp ⟨rfl, bp⟩
              have CP := Lib.hid (C6.out.stays (bp.block _ C6.out.lt))
              have BP := Lib.hid (B6.out.trans (bp.mono B6.out.size))
              clear bp
              go_wp2_with fail
              refine (refAt_any s _ _ hs).mono ?_
              rw [show skipN ((j : Nat) : Int) 0 s = j from by unfold skipN; omega]
              unfold posV
              rintro e wq ⟨rfl, bq⟩
              have CQ := Lib.hid (CP.out.stays (bq.block _ CP.out.lt))
              have BQ := Lib.hid (BP.out.trans (bq.mono BP.out.size))
              clear bq
              go_wp2_with fail
              go_roundw
              case rel => exact ⟨i + 1, j, by omega, by go_num, by go_num, CQ.out, BQ.out⟩
              case measure => simp [intOf]; omega
      · by_cases hi1 : i < len
        · have hi2 : ¬ (i : Int) < 100 := by omega
          clear hgo
          go_wp2_with fail
          refine (awake_any _ (Joins.tab_stays gPow T.out BK.out (Nat.le_refl _))).mono ?_
          rintro e w3 ⟨rfl, b3⟩
          have B3 := Lib.hid (BK.out.trans (b3.mono BK.out.size))
          clear b3
          go_wp2_with fail
          go_ret
          exact ⟨rfl, B3.out⟩
        · clear hgo
          go_wp2_with fail
          refine (awake_any _ (Joins.tab_stays gPow T.out BK.out (Nat.le_refl _))).mono ?_
          rintro e w3 ⟨rfl, b3⟩
          have B3 := Lib.hid (BK.out.trans (b3.mono BK.out.size))
          clear b3
          go_wp2_with fail
          go_ret
          exact ⟨rfl, B3.out⟩
end Go.Proofs.YtlmigpobillkoaaDoor
