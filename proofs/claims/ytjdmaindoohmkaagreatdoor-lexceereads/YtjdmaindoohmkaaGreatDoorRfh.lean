/-
  The reference's hex, and a char by its number, walked.
-/
import Derived.Test.YtjdmaindoohmkaaGreatDoorRfb
import Derived.Deep.RegionHeld3
namespace Go.Proofs.YtjdmaindoohmkaaGreatDoor
open Go.RowKit Go.Sort

theorem below_drew0 {B : Nat} {a w : World} (h : Below B a w) : Below B a w.drew := ⟨h.os, h.tape, h.output, h.size, h.block⟩
theorem ret_i64 {a b : Int} (h : a = b) : Ending.returned (.int .i64 a) = .returned (.int .i64 b) := by rw [h]
set_option maxHeartbeats 1000000 in
theorem refHex_yes (c : UInt8) (w : World) (h : isHex c = true) : Calls Tryz.prog 59 #[.int .u8 (c.toNat : Int)] w fun e w' => e = .returned (.int .i64 (hexV c : Nat)) ∧ w = w' := by
  have hlb := UInt8.toNat_lt c
  rcases hex_cases c h with ⟨h1, h2, h3⟩ | ⟨h1, h2, h3⟩
  · have d1 : decide ((48 : Int) ≤ (c.toNat : Int)) = true := by simp; omega
    have d2 : decide ((c.toNat : Int) ≤ 57) = true := by simp; omega
    have e : ((hexV c : Nat) : Int) = (c.toNat : Int) - 48 := by omega
    rw [e]
    have i1 : (48 : Int) ≤ (c.toNat : Int) := by omega
    clear h h3 e
    go_enter Tryz.func59, Tryz.ntmps59
    go_wp2_with fail
    go_ret
    exact ⟨rfl, rfl⟩
  · have d1 : decide ((48 : Int) ≤ (c.toNat : Int)) = true := by simp; omega
    have d2 : decide ((c.toNat : Int) ≤ 57) = false := by simp; omega
    have d3 : decide ((97 : Int) ≤ (c.toNat : Int)) = true := by simp; omega
    have d4 : decide ((c.toNat : Int) ≤ 102) = true := by simp; omega
    have e : ((hexV c : Nat) : Int) = (c.toNat : Int) - 97 + 10 := by omega
    rw [e]
    have i1 : (97 : Int) ≤ (c.toNat : Int) := by omega
    clear h h3 e
    go_enter Tryz.func59, Tryz.ntmps59
    go_wp2_with fail
    go_ret
    exact ⟨rfl, rfl⟩
theorem hex_not (c : UInt8) (h : isHex c = false) : c.toNat < 48 ∨ (57 < c.toNat ∧ c.toNat < 97) ∨ 102 < c.toNat := by
  have := all8 (q := fun c => isHex c || (decide (c.toNat < 48) || (decide (57 < c.toNat) && decide (c.toNat < 97)) || decide (102 < c.toNat))) (by decide +kernel) c
  rw [h] at this
  simp at this
  omega
set_option maxHeartbeats 1000000 in
theorem refHex_no (c : UInt8) (w : World) (h : isHex c = false) : Calls Tryz.prog 59 #[.int .u8 (c.toNat : Int)] w fun e w' => e = .returned (.int .i64 (-1)) ∧ w = w' := by
  have hlb := UInt8.toNat_lt c
  rcases hex_not c h with h1 | ⟨h1, h2⟩ | h1
  · have d1 : decide ((48 : Int) ≤ (c.toNat : Int)) = false := by simp; omega
    have d3 : decide ((97 : Int) ≤ (c.toNat : Int)) = false := by simp; omega
    clear h
    go_enter Tryz.func59, Tryz.ntmps59
    go_wp2_with fail
    go_ret
    exact ⟨rfl, rfl⟩
  · have d1 : decide ((48 : Int) ≤ (c.toNat : Int)) = true := by simp; omega
    have d2 : decide ((c.toNat : Int) ≤ 57) = false := by simp; omega
    have d3 : decide ((97 : Int) ≤ (c.toNat : Int)) = false := by simp; omega
    clear h
    go_enter Tryz.func59, Tryz.ntmps59
    go_wp2_with fail
    go_ret
    exact ⟨rfl, rfl⟩
  · have d1 : decide ((48 : Int) ≤ (c.toNat : Int)) = true := by simp; omega
    have d2 : decide ((c.toNat : Int) ≤ 57) = false := by simp; omega
    have d3 : decide ((97 : Int) ≤ (c.toNat : Int)) = true := by simp; omega
    have d4 : decide ((c.toNat : Int) ≤ 102) = false := by simp; omega
    clear h
    go_enter Tryz.func59, Tryz.ntmps59
    go_wp2_with fail
    go_ret
    exact ⟨rfl, rfl⟩
theorem getD_bt (s : ByteArray) (i : Nat) : s.data.toList.getD i 0 = bt s i := rfl
theorem num_eq (c : UInt8) (n : Nat) (hn : n < 256) : (c == UInt8.ofNat n) = decide (c.toNat = n) := by
  rw [Bool.eq_iff_iff, beq_iff_eq, decide_eq_true_iff]
  constructor
  · rintro rfl; simp; omega
  · intro h; exact UInt8.toNat_inj.1 (by rw [h]; simp; omega)
theorem hp_atn (s : ByteArray) (k n : Nat) (hn : n < 256) (g : List UInt8) : Lib.hasPrefix (s.data.toList.drop k) (UInt8.ofNat n :: g) = true ↔ (k < s.size ∧ (bt s k).toNat = n ∧ Lib.hasPrefix (s.data.toList.drop (k + 1)) g = true) := by
  by_cases h : k < s.size
  · rw [drop_bt s k h, hp_cons, Bool.and_eq_true, show (UInt8.ofNat n == bt s k) = (bt s k == UInt8.ofNat n) from Bool.beq_comm, num_eq _ n hn, decide_eq_true_iff]
    exact ⟨fun x => ⟨h, x.1, x.2⟩, fun x => ⟨x.2.1, x.2.2⟩⟩
  · rw [drop_end s k h]
    constructor
    · intro x; cases x
    · intro x; exact absurd x.1 h
theorem bt_in (s : ByteArray) (k n : Nat) (h : (bt s k).toNat = n) (hn : 0 < n) : k < s.size := by
  rcases Nat.lt_or_ge k s.size with g | g
  · exact g
  · rw [bt_out s k g] at h; exact absurd h (by simp; omega)
/-- A char by its bytes, in the reference's order. -/
theorem quote_def {s : ByteArray} (h0 : 0 < s.size) (hc : (bt s 0).toNat = 39) : quoteL s.data.toList =
    if (bt s 1).toNat = 92 ∧ ((bt s 2).toNat = 92 ∨ (bt s 2).toNat = 39) ∧ (bt s 3).toNat = 39 then ⟨4, [], (bt s 2).toNat, 4, 0⟩
    else if (bt s 1).toNat = 92 ∧ (bt s 2).toNat = 120 ∧ isHex (bt s 3) = true ∧ isHex (bt s 4) = true ∧ (bt s 5).toNat = 39 then ⟨4, [], hexV (bt s 3) * 16 + hexV (bt s 4), 6, 0⟩
    else if 32 ≤ (bt s 1).toNat ∧ (bt s 1).toNat ≤ 126 ∧ (bt s 1).toNat ≠ 39 ∧ (bt s 2).toNat = 39 ∧ (bt s 1).toNat ≠ 92 then ⟨4, [], (bt s 1).toNat, 3, 0⟩ else bad 7 := by
  have p1 : Lib.hasPrefix s.data.toList [39, 92, 39, 39] = true ↔ ((bt s 1).toNat = 92 ∧ (bt s 2).toNat = 39 ∧ (bt s 3).toNat = 39) := by
    have e := hp_atn s 0 39 (by decide) [92, 39, 39]
    have e1 := hp_atn s 1 92 (by decide) [39, 39]
    have e2 := hp_atn s 2 39 (by decide) [39]
    have e3 := hp_atn s 3 39 (by decide) []
    rw [List.drop_zero] at e
    refine ⟨fun x => ?_, fun x => ?_⟩
    · have y := e1.1 (e.1 x).2.2
      have z := e2.1 y.2.2
      exact ⟨y.2.1, z.2.1, (e3.1 z.2.2).2.1⟩
    · exact e.2 ⟨h0, hc, e1.2 ⟨bt_in s 1 _ x.1 (by decide), x.1, e2.2 ⟨bt_in s 2 _ x.2.1 (by decide), x.2.1, e3.2 ⟨bt_in s 3 _ x.2.2 (by decide), x.2.2, hp_nil _⟩⟩⟩⟩
  have p2 : Lib.hasPrefix s.data.toList [39, 92, 92, 39] = true ↔ ((bt s 1).toNat = 92 ∧ (bt s 2).toNat = 92 ∧ (bt s 3).toNat = 39) := by
    have e := hp_atn s 0 39 (by decide) [92, 92, 39]
    have e1 := hp_atn s 1 92 (by decide) [92, 39]
    have e2 := hp_atn s 2 92 (by decide) [39]
    have e3 := hp_atn s 3 39 (by decide) []
    rw [List.drop_zero] at e
    refine ⟨fun x => ?_, fun x => ?_⟩
    · have y := e1.1 (e.1 x).2.2
      have z := e2.1 y.2.2
      exact ⟨y.2.1, z.2.1, (e3.1 z.2.2).2.1⟩
    · exact e.2 ⟨h0, hc, e1.2 ⟨bt_in s 1 _ x.1 (by decide), x.1, e2.2 ⟨bt_in s 2 _ x.2.1 (by decide), x.2.1, e3.2 ⟨bt_in s 3 _ x.2.2 (by decide), x.2.2, hp_nil _⟩⟩⟩⟩
  have p3 : Lib.hasPrefix s.data.toList [39, 92, 120] = true ↔ ((bt s 1).toNat = 92 ∧ (bt s 2).toNat = 120) := by
    have e := hp_atn s 0 39 (by decide) [92, 120]
    have e1 := hp_atn s 1 92 (by decide) [120]
    have e2 := hp_atn s 2 120 (by decide) []
    rw [List.drop_zero] at e
    refine ⟨fun x => ?_, fun x => ?_⟩
    · have y := e1.1 (e.1 x).2.2
      exact ⟨y.2.1, (e2.1 y.2.2).2.1⟩
    · exact e.2 ⟨h0, hc, e1.2 ⟨bt_in s 1 _ x.1 (by decide), x.1, e2.2 ⟨bt_in s 2 _ x.2 (by decide), x.2, hp_nil _⟩⟩⟩
  have n39 : ∀ c : UInt8, (c == 39) = decide (c.toNat = 39) := fun c => num_eq c 39 (by decide)
  have n92 : ∀ c : UInt8, (c == 92) = decide (c.toNat = 92) := fun c => num_eq c 92 (by decide)
  unfold quoteL
  split
  · rename_i h
    have x := p1.1 h
    rw [if_pos ⟨x.1, .inr x.2.1, x.2.2⟩, x.2.1]
  · rename_i h1
    split
    · rename_i h
      have x := p2.1 h
      rw [if_pos ⟨x.1, .inl x.2.1, x.2.2⟩, x.2.1]
    · rename_i h2
      split
      · rename_i h
        have x := p3.1 h
        rw [if_neg (by rintro ⟨_, y, _⟩; omega)]
        unfold hexL
        rw [getD_bt, getD_bt, getD_bt, n39]
        split
        · rename_i hx
          rw [Bool.and_eq_true, Bool.and_eq_true, decide_eq_true_iff] at hx
          rw [if_pos ⟨x.1, x.2, hx.1.1, hx.1.2, hx.2⟩]
        · rename_i hx
          rw [if_neg (by rintro ⟨_, _, y3, y4, y5⟩; exact hx (by rw [y3, y4, decide_eq_true y5]; rfl)), if_neg (by rintro ⟨_, _, _, _, y⟩; exact y x.1)]
      · rename_i h3
        rw [if_neg (by rintro ⟨y1, y2 | y2, y3⟩; exact h2 (p2.2 ⟨y1, y2, y3⟩); exact h1 (p1.2 ⟨y1, y2, y3⟩)), if_neg (by rintro ⟨y1, y2, _⟩; exact h3 (p3.2 ⟨y1, y2⟩))]
        unfold quote1 visB
        rw [getD_bt, getD_bt, n39, n92, n39]
        split
        · rename_i hx
          simp at hx
          rw [if_pos ⟨hx.1.1.1.1, hx.1.1.1.2, hx.1.1.2, hx.2, hx.1.2⟩]
        · rename_i hx
          rw [if_neg (by rintro ⟨y1, y2, y3, y4, y5⟩; exact hx (by simp [y1, y2, y3, y4, y5]))]
set_option maxRecDepth 100000 in
set_option maxHeartbeats 4000000 in
theorem refQuote_hex (s : ByteArray) (w : World) (h0 : 0 < s.size) (hc : (bt s 0).toNat = 39) (qz6 : 6 ≤ s.size) (qa1 : (bt s 1).toNat = 92) (qa5 : (bt s 2).toNat = 120) (qh3 : isHex (bt s 3) = true) (qh4 : isHex (bt s 4) = true) (qa6 : (bt s 5).toNat = 39) : Calls Tryz.prog 45 #[.int .i64 1, .string s] w (FPost (quoteL s.data.toList) w) := by
  have hb0 := bt_eq s 0 h0
  have d0 : (((bt s 0).toNat : Int) == 35) = false := by rw [hc]; rfl
  rw [quote_def h0 hc, if_neg (by omega), if_pos ⟨by omega, by omega, qh3, qh4, by omega⟩]
  have hb1 := bt_eq s 1 (by omega)
  have hb2 := bt_eq s 2 (by omega)
  have hb3 := bt_eq s 3 (by omega)
  have hb4 := bt_eq s 4 (by omega)
  have hb5 := bt_eq s 5 (by omega)
  have z4 : decide ((4 : Int) ≤ (s.size : Int)) = true := by simp; omega
  have z4n : decide (4 ≤ s.size) = true := by simp; omega
  have a1 : (((bt s 1).toNat : Int) == 92) = true := by simp; omega
  have a1n : (((bt s 1).toNat : Int) != 92) = false := by simp; omega
  have a2 : (((bt s 2).toNat : Int) == 92) = false := by simp; omega
  have a2n : (((bt s 2).toNat : Int) != 92) = true := by simp; omega
  have a3 : (((bt s 2).toNat : Int) == 39) = false := by simp; omega
  have a3n : (((bt s 2).toNat : Int) != 39) = true := by simp; omega
  have z6 : decide ((6 : Int) ≤ (s.size : Int)) = true := by simp; omega
  have z6n : decide (6 ≤ s.size) = true := by simp; omega
  have a5 : (((bt s 2).toNat : Int) == 120) = true := by simp; omega
  have a5n : (((bt s 2).toNat : Int) != 120) = false := by simp; omega
  have a6 : (((bt s 5).toNat : Int) == 39) = true := by simp; omega
  have a6n : (((bt s 5).toNat : Int) != 39) = false := by simp; omega
  have hv3 := hex_cases (bt s 3) qh3
  have hv4 := hex_cases (bt s 4) qh4
  have hA : hexV (bt s 3) ≤ 15 := by omega
  have hB : hexV (bt s 4) ≤ 15 := by omega
  have HX3 := Lib.hid fun W => refHex_yes (bt s 3) W qh3
  have HX4 := Lib.hid fun W => refHex_yes (bt s 4) W qh4
  clear hv3 hv4 qh3 qh4
  generalize hexV (bt s 3) = va at HX3 hA ⊢
  generalize hexV (bt s 4) = vb at HX4 hB ⊢
  have hw1 : IntKind.i64.wrap ((va : Int) * 16) = (va : Int) * 16 := IntWalk.i64_in _ (by omega)
  have hw2 : IntKind.i64.wrap ((va : Int) * 16 + (vb : Int)) = (va : Int) * 16 + (vb : Int) := IntWalk.i64_in _ (by omega)
  clear hc qa1 qa5 qa6
  go_enter Tryz.func45, Tryz.ntmps45
  go_wp2_with fail
  refine (HX3.out _).mono ?_
  rintro e w3 ⟨rfl, rfl⟩
  go_wp2_with fail
  refine (HX4.out _).mono ?_
  rintro e w4 ⟨rfl, rfl⟩
  go_wp2_with fail
  go_region_held3 (fun _ => True) (trivial)
    (first
      | (go_at_call 59; with_reducible refine (HX3.out _).mono ?_; rintro e w6 ⟨rfl, rfl⟩)
      | (go_at_call 59; with_reducible refine (HX4.out _).mono ?_; rintro e w7 ⟨rfl, rfl⟩))
  all_goals go_wp2_with fail
  all_goals exact bodyPost_ret (v := .agg #[.int .i64 4, .string ⟨#[]⟩, .int .i64 ((va * 16 + vb : Nat) : Int), .bool false, .int .i64 0, .int .i64 0, .int .i64 0, .int .i64 6, .int .i64 0]) (by simp [results, Tryz.results45, go_sem]) rfl ⟨_, rfl, fv_ok 4 (va * 16 + vb) 6 [], by first | exact (Below.refl _ _).alloc (Nat.le_refl _) _ | exact below_drew0 ((Below.refl _ _).alloc (Nat.le_refl _) _)⟩
end Go.Proofs.YtjdmaindoohmkaaGreatDoor
