/-
  The reference's char, walked.
-/
import Derived.Test.YtjdmaindoohmkaaGreatDoorRfh
namespace Go.Proofs.YtjdmaindoohmkaaGreatDoor
open Go.RowKit Go.Sort

set_option maxRecDepth 100000 in
set_option maxHeartbeats 8000000 in
theorem refQuote (s : ByteArray) (w : World) (hs : s.size ≤ 100000) (h0 : 0 < s.size) (hc : (bt s 0).toNat = 39) : Calls Tryz.prog 45 #[.int .i64 1, .string s] w (FPost (quoteL s.data.toList) w) := by
  have hb0 := bt_eq s 0 h0
  have d0 : (((bt s 0).toNat : Int) == 35) = false := by rw [hc]; rfl
  by_cases qz4 : 4 ≤ s.size
  · by_cases qa1 : (bt s 1).toNat = 92
    · by_cases qa2 : (bt s 2).toNat = 92
      · by_cases qa4 : (bt s 3).toNat = 39
        · rw [quote_def h0 hc, if_pos (by omega)]
          have hb1 := bt_eq s 1 (by omega)
          have hb2 := bt_eq s 2 (by omega)
          have hb3 := bt_eq s 3 (by omega)
          have hl2 := UInt8.toNat_lt (bt s 2)
          have z4 : decide ((4 : Int) ≤ (s.size : Int)) = true := by simp; omega
          have z4n : decide (4 ≤ s.size) = true := by simp; omega
          have a1 : (((bt s 1).toNat : Int) == 92) = true := by simp; omega
          have a1n : (((bt s 1).toNat : Int) != 92) = false := by simp; omega
          have a2 : (((bt s 2).toNat : Int) == 92) = true := by simp; omega
          have a2n : (((bt s 2).toNat : Int) != 92) = false := by simp; omega
          have a4 : (((bt s 3).toNat : Int) == 39) = true := by simp; omega
          have a4n : (((bt s 3).toNat : Int) != 39) = false := by simp; omega
          clear hc qa1 qa2 qa4
          go_enter Tryz.func45, Tryz.ntmps45
          go_wp2_with fail
          exact bodyPost_ret (v := .agg #[.int .i64 4, .string ⟨#[]⟩, .int .i64 ((bt s 2).toNat : Nat), .bool false, .int .i64 0, .int .i64 0, .int .i64 0, .int .i64 4, .int .i64 0]) (by simp [results, Tryz.results45, go_sem]) rfl ⟨_, rfl, fv_ok 4 (bt s 2).toNat 4 [], (Below.refl _ _).alloc (Nat.le_refl _) _⟩
        · by_cases qz6 : 6 ≤ s.size
          · rw [quote_def h0 hc, if_neg (by rintro ⟨x1, x2, x3⟩; omega), if_neg (by rintro ⟨x1, x2, x3, x4, x5⟩; omega), if_neg (by rintro ⟨x1, x2, x3, x4, x5⟩; omega)]
            have hb1 := bt_eq s 1 (by omega)
            have hb2 := bt_eq s 2 (by omega)
            have hb3 := bt_eq s 3 (by omega)
            have hb4 := bt_eq s 4 (by omega)
            have hb5 := bt_eq s 5 (by omega)
            have z4 : decide ((4 : Int) ≤ (s.size : Int)) = true := by simp; omega
            have z4n : decide (4 ≤ s.size) = true := by simp; omega
            have a1 : (((bt s 1).toNat : Int) == 92) = true := by simp; omega
            have a1n : (((bt s 1).toNat : Int) != 92) = false := by simp; omega
            have a2 : (((bt s 2).toNat : Int) == 92) = true := by simp; omega
            have a2n : (((bt s 2).toNat : Int) != 92) = false := by simp; omega
            have a4 : (((bt s 3).toNat : Int) == 39) = false := by simp; omega
            have a4n : (((bt s 3).toNat : Int) != 39) = true := by simp; omega
            have z6 : decide ((6 : Int) ≤ (s.size : Int)) = true := by simp; omega
            have z6n : decide (6 ≤ s.size) = true := by simp; omega
            have a5 : (((bt s 2).toNat : Int) == 120) = false := by simp; omega
            have a5n : (((bt s 2).toNat : Int) != 120) = true := by simp; omega
            have z3 : decide ((3 : Int) ≤ (s.size : Int)) = true := by simp; omega
            have z3n : decide (3 ≤ s.size) = true := by simp; omega
            have v1 : decide ((32 : Int) ≤ ((bt s 1).toNat : Int)) = true := by simp; omega
            have v2 : decide (((bt s 1).toNat : Int) ≤ 126) = true := by simp; omega
            have v3 : (((bt s 1).toNat : Int) == 39) = false := by simp; omega
            have v3n : (((bt s 1).toNat : Int) != 39) = true := by simp; omega
            have a3 : (((bt s 2).toNat : Int) == 39) = false := by simp; omega
            have a3n : (((bt s 2).toNat : Int) != 39) = true := by simp; omega
            clear hc qa1 qa2 qa4
            go_enter Tryz.func45, Tryz.ntmps45
            go_wp2_with fail
            exact bodyPost_ret (v := .agg #[.int .i64 0, .string ⟨#[]⟩, .int .i64 0, .bool false, .int .i64 0, .int .i64 0, .int .i64 0, .int .i64 0, .int .i64 7]) (by simp [results, Tryz.results45, go_sem]) rfl ⟨_, rfl, fv_bad 7, (Below.refl _ _).alloc (Nat.le_refl _) _⟩
          · rw [quote_def h0 hc, if_neg (by rintro ⟨x1, x2, x3⟩; omega), if_neg (by rintro ⟨x1, x2, x3, x4, x5⟩; omega), if_neg (by rintro ⟨x1, x2, x3, x4, x5⟩; omega)]
            have hb1 := bt_eq s 1 (by omega)
            have hb2 := bt_eq s 2 (by omega)
            have hb3 := bt_eq s 3 (by omega)
            have z4 : decide ((4 : Int) ≤ (s.size : Int)) = true := by simp; omega
            have z4n : decide (4 ≤ s.size) = true := by simp; omega
            have a1 : (((bt s 1).toNat : Int) == 92) = true := by simp; omega
            have a1n : (((bt s 1).toNat : Int) != 92) = false := by simp; omega
            have a2 : (((bt s 2).toNat : Int) == 92) = true := by simp; omega
            have a2n : (((bt s 2).toNat : Int) != 92) = false := by simp; omega
            have a4 : (((bt s 3).toNat : Int) == 39) = false := by simp; omega
            have a4n : (((bt s 3).toNat : Int) != 39) = true := by simp; omega
            have z6 : decide ((6 : Int) ≤ (s.size : Int)) = false := by simp; omega
            have z6n : decide (6 ≤ s.size) = false := by simp; omega
            have z3 : decide ((3 : Int) ≤ (s.size : Int)) = true := by simp; omega
            have z3n : decide (3 ≤ s.size) = true := by simp; omega
            have v1 : decide ((32 : Int) ≤ ((bt s 1).toNat : Int)) = true := by simp; omega
            have v2 : decide (((bt s 1).toNat : Int) ≤ 126) = true := by simp; omega
            have v3 : (((bt s 1).toNat : Int) == 39) = false := by simp; omega
            have v3n : (((bt s 1).toNat : Int) != 39) = true := by simp; omega
            have a3 : (((bt s 2).toNat : Int) == 39) = false := by simp; omega
            have a3n : (((bt s 2).toNat : Int) != 39) = true := by simp; omega
            clear hc qa1 qa2 qa4
            go_enter Tryz.func45, Tryz.ntmps45
            go_wp2_with fail
            exact bodyPost_ret (v := .agg #[.int .i64 0, .string ⟨#[]⟩, .int .i64 0, .bool false, .int .i64 0, .int .i64 0, .int .i64 0, .int .i64 0, .int .i64 7]) (by simp [results, Tryz.results45, go_sem]) rfl ⟨_, rfl, fv_bad 7, (Below.refl _ _).alloc (Nat.le_refl _) _⟩
      · by_cases qa3 : (bt s 2).toNat = 39
        · by_cases qa4 : (bt s 3).toNat = 39
          · rw [quote_def h0 hc, if_pos (by omega)]
            have hb1 := bt_eq s 1 (by omega)
            have hb2 := bt_eq s 2 (by omega)
            have hb3 := bt_eq s 3 (by omega)
            have hl2 := UInt8.toNat_lt (bt s 2)
            have z4 : decide ((4 : Int) ≤ (s.size : Int)) = true := by simp; omega
            have z4n : decide (4 ≤ s.size) = true := by simp; omega
            have a1 : (((bt s 1).toNat : Int) == 92) = true := by simp; omega
            have a1n : (((bt s 1).toNat : Int) != 92) = false := by simp; omega
            have a2 : (((bt s 2).toNat : Int) == 92) = false := by simp; omega
            have a2n : (((bt s 2).toNat : Int) != 92) = true := by simp; omega
            have a3 : (((bt s 2).toNat : Int) == 39) = true := by simp; omega
            have a3n : (((bt s 2).toNat : Int) != 39) = false := by simp; omega
            have a4 : (((bt s 3).toNat : Int) == 39) = true := by simp; omega
            have a4n : (((bt s 3).toNat : Int) != 39) = false := by simp; omega
            clear hc qa1 qa2 qa3 qa4
            go_enter Tryz.func45, Tryz.ntmps45
            go_wp2_with fail
            exact bodyPost_ret (v := .agg #[.int .i64 4, .string ⟨#[]⟩, .int .i64 ((bt s 2).toNat : Nat), .bool false, .int .i64 0, .int .i64 0, .int .i64 0, .int .i64 4, .int .i64 0]) (by simp [results, Tryz.results45, go_sem]) rfl ⟨_, rfl, fv_ok 4 (bt s 2).toNat 4 [], (Below.refl _ _).alloc (Nat.le_refl _) _⟩
          · by_cases qz6 : 6 ≤ s.size
            · rw [quote_def h0 hc, if_neg (by rintro ⟨x1, x2, x3⟩; omega), if_neg (by rintro ⟨x1, x2, x3, x4, x5⟩; omega), if_neg (by rintro ⟨x1, x2, x3, x4, x5⟩; omega)]
              have hb1 := bt_eq s 1 (by omega)
              have hb2 := bt_eq s 2 (by omega)
              have hb3 := bt_eq s 3 (by omega)
              have hb4 := bt_eq s 4 (by omega)
              have hb5 := bt_eq s 5 (by omega)
              have z4 : decide ((4 : Int) ≤ (s.size : Int)) = true := by simp; omega
              have z4n : decide (4 ≤ s.size) = true := by simp; omega
              have a1 : (((bt s 1).toNat : Int) == 92) = true := by simp; omega
              have a1n : (((bt s 1).toNat : Int) != 92) = false := by simp; omega
              have a2 : (((bt s 2).toNat : Int) == 92) = false := by simp; omega
              have a2n : (((bt s 2).toNat : Int) != 92) = true := by simp; omega
              have a3 : (((bt s 2).toNat : Int) == 39) = true := by simp; omega
              have a3n : (((bt s 2).toNat : Int) != 39) = false := by simp; omega
              have a4 : (((bt s 3).toNat : Int) == 39) = false := by simp; omega
              have a4n : (((bt s 3).toNat : Int) != 39) = true := by simp; omega
              have z6 : decide ((6 : Int) ≤ (s.size : Int)) = true := by simp; omega
              have z6n : decide (6 ≤ s.size) = true := by simp; omega
              have a5 : (((bt s 2).toNat : Int) == 120) = false := by simp; omega
              have a5n : (((bt s 2).toNat : Int) != 120) = true := by simp; omega
              have z3 : decide ((3 : Int) ≤ (s.size : Int)) = true := by simp; omega
              have z3n : decide (3 ≤ s.size) = true := by simp; omega
              have v1 : decide ((32 : Int) ≤ ((bt s 1).toNat : Int)) = true := by simp; omega
              have v2 : decide (((bt s 1).toNat : Int) ≤ 126) = true := by simp; omega
              have v3 : (((bt s 1).toNat : Int) == 39) = false := by simp; omega
              have v3n : (((bt s 1).toNat : Int) != 39) = true := by simp; omega
              clear hc qa1 qa2 qa3 qa4
              go_enter Tryz.func45, Tryz.ntmps45
              go_wp2_with fail
              exact bodyPost_ret (v := .agg #[.int .i64 0, .string ⟨#[]⟩, .int .i64 0, .bool false, .int .i64 0, .int .i64 0, .int .i64 0, .int .i64 0, .int .i64 7]) (by simp [results, Tryz.results45, go_sem]) rfl ⟨_, rfl, fv_bad 7, (Below.refl _ _).alloc (Nat.le_refl _) _⟩
            · rw [quote_def h0 hc, if_neg (by rintro ⟨x1, x2, x3⟩; omega), if_neg (by rintro ⟨x1, x2, x3, x4, x5⟩; omega), if_neg (by rintro ⟨x1, x2, x3, x4, x5⟩; omega)]
              have hb1 := bt_eq s 1 (by omega)
              have hb2 := bt_eq s 2 (by omega)
              have hb3 := bt_eq s 3 (by omega)
              have z4 : decide ((4 : Int) ≤ (s.size : Int)) = true := by simp; omega
              have z4n : decide (4 ≤ s.size) = true := by simp; omega
              have a1 : (((bt s 1).toNat : Int) == 92) = true := by simp; omega
              have a1n : (((bt s 1).toNat : Int) != 92) = false := by simp; omega
              have a2 : (((bt s 2).toNat : Int) == 92) = false := by simp; omega
              have a2n : (((bt s 2).toNat : Int) != 92) = true := by simp; omega
              have a3 : (((bt s 2).toNat : Int) == 39) = true := by simp; omega
              have a3n : (((bt s 2).toNat : Int) != 39) = false := by simp; omega
              have a4 : (((bt s 3).toNat : Int) == 39) = false := by simp; omega
              have a4n : (((bt s 3).toNat : Int) != 39) = true := by simp; omega
              have z6 : decide ((6 : Int) ≤ (s.size : Int)) = false := by simp; omega
              have z6n : decide (6 ≤ s.size) = false := by simp; omega
              have z3 : decide ((3 : Int) ≤ (s.size : Int)) = true := by simp; omega
              have z3n : decide (3 ≤ s.size) = true := by simp; omega
              have v1 : decide ((32 : Int) ≤ ((bt s 1).toNat : Int)) = true := by simp; omega
              have v2 : decide (((bt s 1).toNat : Int) ≤ 126) = true := by simp; omega
              have v3 : (((bt s 1).toNat : Int) == 39) = false := by simp; omega
              have v3n : (((bt s 1).toNat : Int) != 39) = true := by simp; omega
              clear hc qa1 qa2 qa3 qa4
              go_enter Tryz.func45, Tryz.ntmps45
              go_wp2_with fail
              exact bodyPost_ret (v := .agg #[.int .i64 0, .string ⟨#[]⟩, .int .i64 0, .bool false, .int .i64 0, .int .i64 0, .int .i64 0, .int .i64 0, .int .i64 7]) (by simp [results, Tryz.results45, go_sem]) rfl ⟨_, rfl, fv_bad 7, (Below.refl _ _).alloc (Nat.le_refl _) _⟩
        · by_cases qz6 : 6 ≤ s.size
          · by_cases qa5 : (bt s 2).toNat = 120
            · by_cases qh3 : isHex (bt s 3) = true
              · by_cases qh4 : isHex (bt s 4) = true
                · by_cases qa6 : (bt s 5).toNat = 39
                  · exact refQuote_hex s w h0 hc qz6 qa1 qa5 qh3 qh4 qa6
                  · rw [quote_def h0 hc, if_neg (by rintro ⟨x1, x2, x3⟩; omega), if_neg (by rintro ⟨x1, x2, x3, x4, x5⟩; omega), if_neg (by rintro ⟨x1, x2, x3, x4, x5⟩; omega)]
                    have hb1 := bt_eq s 1 (by omega)
                    have hb2 := bt_eq s 2 (by omega)
                    have hb3 := bt_eq s 3 (by omega)
                    have hb4 := bt_eq s 4 (by omega)
                    have hb5 := bt_eq s 5 (by omega)
                    have z4 : decide ((4 : Int) ≤ (s.size : Int)) = true := by simp; omega
                    have z4n : decide (4 ≤ s.size) = true := by simp; omega
                    have a1 : (((bt s 1).toNat : Int) == 92) = true := by simp; omega
                    have a1n : (((bt s 1).toNat : Int) != 92) = false := by simp; omega
                    have a2 : (((bt s 2).toNat : Int) == 92) = false := by simp; omega
                    have a2n : (((bt s 2).toNat : Int) != 92) = true := by simp; omega
                    have a3 : (((bt s 2).toNat : Int) == 39) = false := by simp; omega
                    have a3n : (((bt s 2).toNat : Int) != 39) = true := by simp; omega
                    have z6 : decide ((6 : Int) ≤ (s.size : Int)) = true := by simp; omega
                    have z6n : decide (6 ≤ s.size) = true := by simp; omega
                    have a5 : (((bt s 2).toNat : Int) == 120) = true := by simp; omega
                    have a5n : (((bt s 2).toNat : Int) != 120) = false := by simp; omega
                    have a6 : (((bt s 5).toNat : Int) == 39) = false := by simp; omega
                    have a6n : (((bt s 5).toNat : Int) != 39) = true := by simp; omega
                    have z3 : decide ((3 : Int) ≤ (s.size : Int)) = true := by simp; omega
                    have z3n : decide (3 ≤ s.size) = true := by simp; omega
                    have v1 : decide ((32 : Int) ≤ ((bt s 1).toNat : Int)) = true := by simp; omega
                    have v2 : decide (((bt s 1).toNat : Int) ≤ 126) = true := by simp; omega
                    have v3 : (((bt s 1).toNat : Int) == 39) = false := by simp; omega
                    have v3n : (((bt s 1).toNat : Int) != 39) = true := by simp; omega
                    have HX3 := Lib.hid fun W => refHex_yes (bt s 3) W qh3
                    have HX4 := Lib.hid fun W => refHex_yes (bt s 4) W qh4
                    clear hc qa1 qa2 qa3 qa5 qh3 qh4 qa6
                    go_enter Tryz.func45, Tryz.ntmps45
                    go_wp2_with fail
                    refine (HX3.out _).mono ?_
                    rintro e w3 ⟨rfl, rfl⟩
                    go_wp2_with fail
                    refine (HX4.out _).mono ?_
                    rintro e w4 ⟨rfl, rfl⟩
                    go_wp2_with fail
                    exact bodyPost_ret (v := .agg #[.int .i64 0, .string ⟨#[]⟩, .int .i64 0, .bool false, .int .i64 0, .int .i64 0, .int .i64 0, .int .i64 0, .int .i64 7]) (by simp [results, Tryz.results45, go_sem]) rfl ⟨_, rfl, fv_bad 7, (Below.refl _ _).alloc (Nat.le_refl _) _⟩
                · rw [quote_def h0 hc, if_neg (by rintro ⟨x1, x2, x3⟩; omega), if_neg (by rintro ⟨x1, x2, x3, x4, x5⟩; exact qh4 x4), if_neg (by rintro ⟨x1, x2, x3, x4, x5⟩; omega)]
                  have hb1 := bt_eq s 1 (by omega)
                  have hb2 := bt_eq s 2 (by omega)
                  have hb3 := bt_eq s 3 (by omega)
                  have hb4 := bt_eq s 4 (by omega)
                  have hb5 := bt_eq s 5 (by omega)
                  have z4 : decide ((4 : Int) ≤ (s.size : Int)) = true := by simp; omega
                  have z4n : decide (4 ≤ s.size) = true := by simp; omega
                  have a1 : (((bt s 1).toNat : Int) == 92) = true := by simp; omega
                  have a1n : (((bt s 1).toNat : Int) != 92) = false := by simp; omega
                  have a2 : (((bt s 2).toNat : Int) == 92) = false := by simp; omega
                  have a2n : (((bt s 2).toNat : Int) != 92) = true := by simp; omega
                  have a3 : (((bt s 2).toNat : Int) == 39) = false := by simp; omega
                  have a3n : (((bt s 2).toNat : Int) != 39) = true := by simp; omega
                  have z6 : decide ((6 : Int) ≤ (s.size : Int)) = true := by simp; omega
                  have z6n : decide (6 ≤ s.size) = true := by simp; omega
                  have a5 : (((bt s 2).toNat : Int) == 120) = true := by simp; omega
                  have a5n : (((bt s 2).toNat : Int) != 120) = false := by simp; omega
                  have z3 : decide ((3 : Int) ≤ (s.size : Int)) = true := by simp; omega
                  have z3n : decide (3 ≤ s.size) = true := by simp; omega
                  have v1 : decide ((32 : Int) ≤ ((bt s 1).toNat : Int)) = true := by simp; omega
                  have v2 : decide (((bt s 1).toNat : Int) ≤ 126) = true := by simp; omega
                  have v3 : (((bt s 1).toNat : Int) == 39) = false := by simp; omega
                  have v3n : (((bt s 1).toNat : Int) != 39) = true := by simp; omega
                  have HX3 := Lib.hid fun W => refHex_yes (bt s 3) W qh3
                  have HX4 := Lib.hid fun W => refHex_no (bt s 4) W (by simpa using qh4)
                  clear hc qa1 qa2 qa3 qa5 qh3 qh4
                  go_enter Tryz.func45, Tryz.ntmps45
                  go_wp2_with fail
                  refine (HX3.out _).mono ?_
                  rintro e w3 ⟨rfl, rfl⟩
                  go_wp2_with fail
                  refine (HX4.out _).mono ?_
                  rintro e w4 ⟨rfl, rfl⟩
                  go_wp2_with fail
                  exact bodyPost_ret (v := .agg #[.int .i64 0, .string ⟨#[]⟩, .int .i64 0, .bool false, .int .i64 0, .int .i64 0, .int .i64 0, .int .i64 0, .int .i64 7]) (by simp [results, Tryz.results45, go_sem]) rfl ⟨_, rfl, fv_bad 7, (Below.refl _ _).alloc (Nat.le_refl _) _⟩
              · rw [quote_def h0 hc, if_neg (by rintro ⟨x1, x2, x3⟩; omega), if_neg (by rintro ⟨x1, x2, x3, x4, x5⟩; exact qh3 x3), if_neg (by rintro ⟨x1, x2, x3, x4, x5⟩; omega)]
                have hb1 := bt_eq s 1 (by omega)
                have hb2 := bt_eq s 2 (by omega)
                have hb3 := bt_eq s 3 (by omega)
                have hb4 := bt_eq s 4 (by omega)
                have hb5 := bt_eq s 5 (by omega)
                have z4 : decide ((4 : Int) ≤ (s.size : Int)) = true := by simp; omega
                have z4n : decide (4 ≤ s.size) = true := by simp; omega
                have a1 : (((bt s 1).toNat : Int) == 92) = true := by simp; omega
                have a1n : (((bt s 1).toNat : Int) != 92) = false := by simp; omega
                have a2 : (((bt s 2).toNat : Int) == 92) = false := by simp; omega
                have a2n : (((bt s 2).toNat : Int) != 92) = true := by simp; omega
                have a3 : (((bt s 2).toNat : Int) == 39) = false := by simp; omega
                have a3n : (((bt s 2).toNat : Int) != 39) = true := by simp; omega
                have z6 : decide ((6 : Int) ≤ (s.size : Int)) = true := by simp; omega
                have z6n : decide (6 ≤ s.size) = true := by simp; omega
                have a5 : (((bt s 2).toNat : Int) == 120) = true := by simp; omega
                have a5n : (((bt s 2).toNat : Int) != 120) = false := by simp; omega
                have z3 : decide ((3 : Int) ≤ (s.size : Int)) = true := by simp; omega
                have z3n : decide (3 ≤ s.size) = true := by simp; omega
                have v1 : decide ((32 : Int) ≤ ((bt s 1).toNat : Int)) = true := by simp; omega
                have v2 : decide (((bt s 1).toNat : Int) ≤ 126) = true := by simp; omega
                have v3 : (((bt s 1).toNat : Int) == 39) = false := by simp; omega
                have v3n : (((bt s 1).toNat : Int) != 39) = true := by simp; omega
                have HX3 := Lib.hid fun W => refHex_no (bt s 3) W (by simpa using qh3)
                clear hc qa1 qa2 qa3 qa5 qh3
                go_enter Tryz.func45, Tryz.ntmps45
                go_wp2_with fail
                refine (HX3.out _).mono ?_
                rintro e w3 ⟨rfl, rfl⟩
                go_wp2_with fail
                exact bodyPost_ret (v := .agg #[.int .i64 0, .string ⟨#[]⟩, .int .i64 0, .bool false, .int .i64 0, .int .i64 0, .int .i64 0, .int .i64 0, .int .i64 7]) (by simp [results, Tryz.results45, go_sem]) rfl ⟨_, rfl, fv_bad 7, (Below.refl _ _).alloc (Nat.le_refl _) _⟩
            · rw [quote_def h0 hc, if_neg (by rintro ⟨x1, x2, x3⟩; omega), if_neg (by rintro ⟨x1, x2, x3, x4, x5⟩; omega), if_neg (by rintro ⟨x1, x2, x3, x4, x5⟩; omega)]
              have hb1 := bt_eq s 1 (by omega)
              have hb2 := bt_eq s 2 (by omega)
              have hb3 := bt_eq s 3 (by omega)
              have hb4 := bt_eq s 4 (by omega)
              have hb5 := bt_eq s 5 (by omega)
              have z4 : decide ((4 : Int) ≤ (s.size : Int)) = true := by simp; omega
              have z4n : decide (4 ≤ s.size) = true := by simp; omega
              have a1 : (((bt s 1).toNat : Int) == 92) = true := by simp; omega
              have a1n : (((bt s 1).toNat : Int) != 92) = false := by simp; omega
              have a2 : (((bt s 2).toNat : Int) == 92) = false := by simp; omega
              have a2n : (((bt s 2).toNat : Int) != 92) = true := by simp; omega
              have a3 : (((bt s 2).toNat : Int) == 39) = false := by simp; omega
              have a3n : (((bt s 2).toNat : Int) != 39) = true := by simp; omega
              have z6 : decide ((6 : Int) ≤ (s.size : Int)) = true := by simp; omega
              have z6n : decide (6 ≤ s.size) = true := by simp; omega
              have a5 : (((bt s 2).toNat : Int) == 120) = false := by simp; omega
              have a5n : (((bt s 2).toNat : Int) != 120) = true := by simp; omega
              have z3 : decide ((3 : Int) ≤ (s.size : Int)) = true := by simp; omega
              have z3n : decide (3 ≤ s.size) = true := by simp; omega
              have v1 : decide ((32 : Int) ≤ ((bt s 1).toNat : Int)) = true := by simp; omega
              have v2 : decide (((bt s 1).toNat : Int) ≤ 126) = true := by simp; omega
              have v3 : (((bt s 1).toNat : Int) == 39) = false := by simp; omega
              have v3n : (((bt s 1).toNat : Int) != 39) = true := by simp; omega
              clear hc qa1 qa2 qa3 qa5
              go_enter Tryz.func45, Tryz.ntmps45
              go_wp2_with fail
              exact bodyPost_ret (v := .agg #[.int .i64 0, .string ⟨#[]⟩, .int .i64 0, .bool false, .int .i64 0, .int .i64 0, .int .i64 0, .int .i64 0, .int .i64 7]) (by simp [results, Tryz.results45, go_sem]) rfl ⟨_, rfl, fv_bad 7, (Below.refl _ _).alloc (Nat.le_refl _) _⟩
          · rw [quote_def h0 hc, if_neg (by rintro ⟨x1, x2, x3⟩; omega), if_neg (by rintro ⟨x1, x2, x3, x4, x5⟩; rw [bt_out s 5 (by omega)] at x5; exact absurd x5 (by decide)), if_neg (by rintro ⟨x1, x2, x3, x4, x5⟩; omega)]
            have hb1 := bt_eq s 1 (by omega)
            have hb2 := bt_eq s 2 (by omega)
            have hb3 := bt_eq s 3 (by omega)
            have z4 : decide ((4 : Int) ≤ (s.size : Int)) = true := by simp; omega
            have z4n : decide (4 ≤ s.size) = true := by simp; omega
            have a1 : (((bt s 1).toNat : Int) == 92) = true := by simp; omega
            have a1n : (((bt s 1).toNat : Int) != 92) = false := by simp; omega
            have a2 : (((bt s 2).toNat : Int) == 92) = false := by simp; omega
            have a2n : (((bt s 2).toNat : Int) != 92) = true := by simp; omega
            have a3 : (((bt s 2).toNat : Int) == 39) = false := by simp; omega
            have a3n : (((bt s 2).toNat : Int) != 39) = true := by simp; omega
            have z6 : decide ((6 : Int) ≤ (s.size : Int)) = false := by simp; omega
            have z6n : decide (6 ≤ s.size) = false := by simp; omega
            have z3 : decide ((3 : Int) ≤ (s.size : Int)) = true := by simp; omega
            have z3n : decide (3 ≤ s.size) = true := by simp; omega
            have v1 : decide ((32 : Int) ≤ ((bt s 1).toNat : Int)) = true := by simp; omega
            have v2 : decide (((bt s 1).toNat : Int) ≤ 126) = true := by simp; omega
            have v3 : (((bt s 1).toNat : Int) == 39) = false := by simp; omega
            have v3n : (((bt s 1).toNat : Int) != 39) = true := by simp; omega
            clear hc qa1 qa2 qa3
            go_enter Tryz.func45, Tryz.ntmps45
            go_wp2_with fail
            exact bodyPost_ret (v := .agg #[.int .i64 0, .string ⟨#[]⟩, .int .i64 0, .bool false, .int .i64 0, .int .i64 0, .int .i64 0, .int .i64 0, .int .i64 7]) (by simp [results, Tryz.results45, go_sem]) rfl ⟨_, rfl, fv_bad 7, (Below.refl _ _).alloc (Nat.le_refl _) _⟩
    · by_cases qz6 : 6 ≤ s.size
      · by_cases qv1 : 32 ≤ (bt s 1).toNat
        · by_cases qv2 : (bt s 1).toNat ≤ 126
          · by_cases qv3 : (bt s 1).toNat = 39
            · rw [quote_def h0 hc, if_neg (by rintro ⟨x1, x2, x3⟩; omega), if_neg (by rintro ⟨x1, x2, x3, x4, x5⟩; omega), if_neg (by rintro ⟨x1, x2, x3, x4, x5⟩; omega)]
              have hb1 := bt_eq s 1 (by omega)
              have hb2 := bt_eq s 2 (by omega)
              have hb3 := bt_eq s 3 (by omega)
              have hb4 := bt_eq s 4 (by omega)
              have hb5 := bt_eq s 5 (by omega)
              have z4 : decide ((4 : Int) ≤ (s.size : Int)) = true := by simp; omega
              have z4n : decide (4 ≤ s.size) = true := by simp; omega
              have a1 : (((bt s 1).toNat : Int) == 92) = false := by simp; omega
              have a1n : (((bt s 1).toNat : Int) != 92) = true := by simp; omega
              have z6 : decide ((6 : Int) ≤ (s.size : Int)) = true := by simp; omega
              have z6n : decide (6 ≤ s.size) = true := by simp; omega
              have z3 : decide ((3 : Int) ≤ (s.size : Int)) = true := by simp; omega
              have z3n : decide (3 ≤ s.size) = true := by simp; omega
              have v1 : decide ((32 : Int) ≤ ((bt s 1).toNat : Int)) = true := by simp; omega
              have v2 : decide (((bt s 1).toNat : Int) ≤ 126) = true := by simp; omega
              have v3 : (((bt s 1).toNat : Int) == 39) = true := by simp; omega
              have v3n : (((bt s 1).toNat : Int) != 39) = false := by simp; omega
              clear hc qa1 qv1 qv2 qv3
              go_enter Tryz.func45, Tryz.ntmps45
              go_wp2_with fail
              exact bodyPost_ret (v := .agg #[.int .i64 0, .string ⟨#[]⟩, .int .i64 0, .bool false, .int .i64 0, .int .i64 0, .int .i64 0, .int .i64 0, .int .i64 7]) (by simp [results, Tryz.results45, go_sem]) rfl ⟨_, rfl, fv_bad 7, (Below.refl _ _).alloc (Nat.le_refl _) _⟩
            · by_cases qa3 : (bt s 2).toNat = 39
              · rw [quote_def h0 hc, if_neg (by rintro ⟨x1, x2, x3⟩; omega), if_neg (by rintro ⟨x1, x2, x3, x4, x5⟩; omega), if_pos (by omega)]
                have hb1 := bt_eq s 1 (by omega)
                have hb2 := bt_eq s 2 (by omega)
                have hb3 := bt_eq s 3 (by omega)
                have hb4 := bt_eq s 4 (by omega)
                have hb5 := bt_eq s 5 (by omega)
                have hl1 := UInt8.toNat_lt (bt s 1)
                have z4 : decide ((4 : Int) ≤ (s.size : Int)) = true := by simp; omega
                have z4n : decide (4 ≤ s.size) = true := by simp; omega
                have a1 : (((bt s 1).toNat : Int) == 92) = false := by simp; omega
                have a1n : (((bt s 1).toNat : Int) != 92) = true := by simp; omega
                have z6 : decide ((6 : Int) ≤ (s.size : Int)) = true := by simp; omega
                have z6n : decide (6 ≤ s.size) = true := by simp; omega
                have z3 : decide ((3 : Int) ≤ (s.size : Int)) = true := by simp; omega
                have z3n : decide (3 ≤ s.size) = true := by simp; omega
                have v1 : decide ((32 : Int) ≤ ((bt s 1).toNat : Int)) = true := by simp; omega
                have v2 : decide (((bt s 1).toNat : Int) ≤ 126) = true := by simp; omega
                have v3 : (((bt s 1).toNat : Int) == 39) = false := by simp; omega
                have v3n : (((bt s 1).toNat : Int) != 39) = true := by simp; omega
                have a3 : (((bt s 2).toNat : Int) == 39) = true := by simp; omega
                have a3n : (((bt s 2).toNat : Int) != 39) = false := by simp; omega
                clear hc qa1 qv1 qv2 qv3 qa3
                go_enter Tryz.func45, Tryz.ntmps45
                go_wp2_with fail
                exact bodyPost_ret (v := .agg #[.int .i64 4, .string ⟨#[]⟩, .int .i64 ((bt s 1).toNat : Nat), .bool false, .int .i64 0, .int .i64 0, .int .i64 0, .int .i64 3, .int .i64 0]) (by simp [results, Tryz.results45, go_sem]) rfl ⟨_, rfl, fv_ok 4 (bt s 1).toNat 3 [], (Below.refl _ _).alloc (Nat.le_refl _) _⟩
              · rw [quote_def h0 hc, if_neg (by rintro ⟨x1, x2, x3⟩; omega), if_neg (by rintro ⟨x1, x2, x3, x4, x5⟩; omega), if_neg (by rintro ⟨x1, x2, x3, x4, x5⟩; omega)]
                have hb1 := bt_eq s 1 (by omega)
                have hb2 := bt_eq s 2 (by omega)
                have hb3 := bt_eq s 3 (by omega)
                have hb4 := bt_eq s 4 (by omega)
                have hb5 := bt_eq s 5 (by omega)
                have z4 : decide ((4 : Int) ≤ (s.size : Int)) = true := by simp; omega
                have z4n : decide (4 ≤ s.size) = true := by simp; omega
                have a1 : (((bt s 1).toNat : Int) == 92) = false := by simp; omega
                have a1n : (((bt s 1).toNat : Int) != 92) = true := by simp; omega
                have z6 : decide ((6 : Int) ≤ (s.size : Int)) = true := by simp; omega
                have z6n : decide (6 ≤ s.size) = true := by simp; omega
                have z3 : decide ((3 : Int) ≤ (s.size : Int)) = true := by simp; omega
                have z3n : decide (3 ≤ s.size) = true := by simp; omega
                have v1 : decide ((32 : Int) ≤ ((bt s 1).toNat : Int)) = true := by simp; omega
                have v2 : decide (((bt s 1).toNat : Int) ≤ 126) = true := by simp; omega
                have v3 : (((bt s 1).toNat : Int) == 39) = false := by simp; omega
                have v3n : (((bt s 1).toNat : Int) != 39) = true := by simp; omega
                have a3 : (((bt s 2).toNat : Int) == 39) = false := by simp; omega
                have a3n : (((bt s 2).toNat : Int) != 39) = true := by simp; omega
                clear hc qa1 qv1 qv2 qv3 qa3
                go_enter Tryz.func45, Tryz.ntmps45
                go_wp2_with fail
                exact bodyPost_ret (v := .agg #[.int .i64 0, .string ⟨#[]⟩, .int .i64 0, .bool false, .int .i64 0, .int .i64 0, .int .i64 0, .int .i64 0, .int .i64 7]) (by simp [results, Tryz.results45, go_sem]) rfl ⟨_, rfl, fv_bad 7, (Below.refl _ _).alloc (Nat.le_refl _) _⟩
          · rw [quote_def h0 hc, if_neg (by rintro ⟨x1, x2, x3⟩; omega), if_neg (by rintro ⟨x1, x2, x3, x4, x5⟩; omega), if_neg (by rintro ⟨x1, x2, x3, x4, x5⟩; omega)]
            have hb1 := bt_eq s 1 (by omega)
            have hb2 := bt_eq s 2 (by omega)
            have hb3 := bt_eq s 3 (by omega)
            have hb4 := bt_eq s 4 (by omega)
            have hb5 := bt_eq s 5 (by omega)
            have z4 : decide ((4 : Int) ≤ (s.size : Int)) = true := by simp; omega
            have z4n : decide (4 ≤ s.size) = true := by simp; omega
            have a1 : (((bt s 1).toNat : Int) == 92) = false := by simp; omega
            have a1n : (((bt s 1).toNat : Int) != 92) = true := by simp; omega
            have z6 : decide ((6 : Int) ≤ (s.size : Int)) = true := by simp; omega
            have z6n : decide (6 ≤ s.size) = true := by simp; omega
            have z3 : decide ((3 : Int) ≤ (s.size : Int)) = true := by simp; omega
            have z3n : decide (3 ≤ s.size) = true := by simp; omega
            have v1 : decide ((32 : Int) ≤ ((bt s 1).toNat : Int)) = true := by simp; omega
            have v2 : decide (((bt s 1).toNat : Int) ≤ 126) = false := by simp; omega
            clear hc qa1 qv1 qv2
            go_enter Tryz.func45, Tryz.ntmps45
            go_wp2_with fail
            exact bodyPost_ret (v := .agg #[.int .i64 0, .string ⟨#[]⟩, .int .i64 0, .bool false, .int .i64 0, .int .i64 0, .int .i64 0, .int .i64 0, .int .i64 7]) (by simp [results, Tryz.results45, go_sem]) rfl ⟨_, rfl, fv_bad 7, (Below.refl _ _).alloc (Nat.le_refl _) _⟩
        · rw [quote_def h0 hc, if_neg (by rintro ⟨x1, x2, x3⟩; omega), if_neg (by rintro ⟨x1, x2, x3, x4, x5⟩; omega), if_neg (by rintro ⟨x1, x2, x3, x4, x5⟩; omega)]
          have hb1 := bt_eq s 1 (by omega)
          have hb2 := bt_eq s 2 (by omega)
          have hb3 := bt_eq s 3 (by omega)
          have hb4 := bt_eq s 4 (by omega)
          have hb5 := bt_eq s 5 (by omega)
          have z4 : decide ((4 : Int) ≤ (s.size : Int)) = true := by simp; omega
          have z4n : decide (4 ≤ s.size) = true := by simp; omega
          have a1 : (((bt s 1).toNat : Int) == 92) = false := by simp; omega
          have a1n : (((bt s 1).toNat : Int) != 92) = true := by simp; omega
          have z6 : decide ((6 : Int) ≤ (s.size : Int)) = true := by simp; omega
          have z6n : decide (6 ≤ s.size) = true := by simp; omega
          have z3 : decide ((3 : Int) ≤ (s.size : Int)) = true := by simp; omega
          have z3n : decide (3 ≤ s.size) = true := by simp; omega
          have v1 : decide ((32 : Int) ≤ ((bt s 1).toNat : Int)) = false := by simp; omega
          clear hc qa1 qv1
          go_enter Tryz.func45, Tryz.ntmps45
          go_wp2_with fail
          exact bodyPost_ret (v := .agg #[.int .i64 0, .string ⟨#[]⟩, .int .i64 0, .bool false, .int .i64 0, .int .i64 0, .int .i64 0, .int .i64 0, .int .i64 7]) (by simp [results, Tryz.results45, go_sem]) rfl ⟨_, rfl, fv_bad 7, (Below.refl _ _).alloc (Nat.le_refl _) _⟩
      · by_cases qv1 : 32 ≤ (bt s 1).toNat
        · by_cases qv2 : (bt s 1).toNat ≤ 126
          · by_cases qv3 : (bt s 1).toNat = 39
            · rw [quote_def h0 hc, if_neg (by rintro ⟨x1, x2, x3⟩; omega), if_neg (by rintro ⟨x1, x2, x3, x4, x5⟩; omega), if_neg (by rintro ⟨x1, x2, x3, x4, x5⟩; omega)]
              have hb1 := bt_eq s 1 (by omega)
              have hb2 := bt_eq s 2 (by omega)
              have hb3 := bt_eq s 3 (by omega)
              have z4 : decide ((4 : Int) ≤ (s.size : Int)) = true := by simp; omega
              have z4n : decide (4 ≤ s.size) = true := by simp; omega
              have a1 : (((bt s 1).toNat : Int) == 92) = false := by simp; omega
              have a1n : (((bt s 1).toNat : Int) != 92) = true := by simp; omega
              have z6 : decide ((6 : Int) ≤ (s.size : Int)) = false := by simp; omega
              have z6n : decide (6 ≤ s.size) = false := by simp; omega
              have z3 : decide ((3 : Int) ≤ (s.size : Int)) = true := by simp; omega
              have z3n : decide (3 ≤ s.size) = true := by simp; omega
              have v1 : decide ((32 : Int) ≤ ((bt s 1).toNat : Int)) = true := by simp; omega
              have v2 : decide (((bt s 1).toNat : Int) ≤ 126) = true := by simp; omega
              have v3 : (((bt s 1).toNat : Int) == 39) = true := by simp; omega
              have v3n : (((bt s 1).toNat : Int) != 39) = false := by simp; omega
              clear hc qa1 qv1 qv2 qv3
              go_enter Tryz.func45, Tryz.ntmps45
              go_wp2_with fail
              exact bodyPost_ret (v := .agg #[.int .i64 0, .string ⟨#[]⟩, .int .i64 0, .bool false, .int .i64 0, .int .i64 0, .int .i64 0, .int .i64 0, .int .i64 7]) (by simp [results, Tryz.results45, go_sem]) rfl ⟨_, rfl, fv_bad 7, (Below.refl _ _).alloc (Nat.le_refl _) _⟩
            · by_cases qa3 : (bt s 2).toNat = 39
              · rw [quote_def h0 hc, if_neg (by rintro ⟨x1, x2, x3⟩; omega), if_neg (by rintro ⟨x1, x2, x3, x4, x5⟩; omega), if_pos (by omega)]
                have hb1 := bt_eq s 1 (by omega)
                have hb2 := bt_eq s 2 (by omega)
                have hb3 := bt_eq s 3 (by omega)
                have hl1 := UInt8.toNat_lt (bt s 1)
                have z4 : decide ((4 : Int) ≤ (s.size : Int)) = true := by simp; omega
                have z4n : decide (4 ≤ s.size) = true := by simp; omega
                have a1 : (((bt s 1).toNat : Int) == 92) = false := by simp; omega
                have a1n : (((bt s 1).toNat : Int) != 92) = true := by simp; omega
                have z6 : decide ((6 : Int) ≤ (s.size : Int)) = false := by simp; omega
                have z6n : decide (6 ≤ s.size) = false := by simp; omega
                have z3 : decide ((3 : Int) ≤ (s.size : Int)) = true := by simp; omega
                have z3n : decide (3 ≤ s.size) = true := by simp; omega
                have v1 : decide ((32 : Int) ≤ ((bt s 1).toNat : Int)) = true := by simp; omega
                have v2 : decide (((bt s 1).toNat : Int) ≤ 126) = true := by simp; omega
                have v3 : (((bt s 1).toNat : Int) == 39) = false := by simp; omega
                have v3n : (((bt s 1).toNat : Int) != 39) = true := by simp; omega
                have a3 : (((bt s 2).toNat : Int) == 39) = true := by simp; omega
                have a3n : (((bt s 2).toNat : Int) != 39) = false := by simp; omega
                clear hc qa1 qv1 qv2 qv3 qa3
                go_enter Tryz.func45, Tryz.ntmps45
                go_wp2_with fail
                exact bodyPost_ret (v := .agg #[.int .i64 4, .string ⟨#[]⟩, .int .i64 ((bt s 1).toNat : Nat), .bool false, .int .i64 0, .int .i64 0, .int .i64 0, .int .i64 3, .int .i64 0]) (by simp [results, Tryz.results45, go_sem]) rfl ⟨_, rfl, fv_ok 4 (bt s 1).toNat 3 [], (Below.refl _ _).alloc (Nat.le_refl _) _⟩
              · rw [quote_def h0 hc, if_neg (by rintro ⟨x1, x2, x3⟩; omega), if_neg (by rintro ⟨x1, x2, x3, x4, x5⟩; omega), if_neg (by rintro ⟨x1, x2, x3, x4, x5⟩; omega)]
                have hb1 := bt_eq s 1 (by omega)
                have hb2 := bt_eq s 2 (by omega)
                have hb3 := bt_eq s 3 (by omega)
                have z4 : decide ((4 : Int) ≤ (s.size : Int)) = true := by simp; omega
                have z4n : decide (4 ≤ s.size) = true := by simp; omega
                have a1 : (((bt s 1).toNat : Int) == 92) = false := by simp; omega
                have a1n : (((bt s 1).toNat : Int) != 92) = true := by simp; omega
                have z6 : decide ((6 : Int) ≤ (s.size : Int)) = false := by simp; omega
                have z6n : decide (6 ≤ s.size) = false := by simp; omega
                have z3 : decide ((3 : Int) ≤ (s.size : Int)) = true := by simp; omega
                have z3n : decide (3 ≤ s.size) = true := by simp; omega
                have v1 : decide ((32 : Int) ≤ ((bt s 1).toNat : Int)) = true := by simp; omega
                have v2 : decide (((bt s 1).toNat : Int) ≤ 126) = true := by simp; omega
                have v3 : (((bt s 1).toNat : Int) == 39) = false := by simp; omega
                have v3n : (((bt s 1).toNat : Int) != 39) = true := by simp; omega
                have a3 : (((bt s 2).toNat : Int) == 39) = false := by simp; omega
                have a3n : (((bt s 2).toNat : Int) != 39) = true := by simp; omega
                clear hc qa1 qv1 qv2 qv3 qa3
                go_enter Tryz.func45, Tryz.ntmps45
                go_wp2_with fail
                exact bodyPost_ret (v := .agg #[.int .i64 0, .string ⟨#[]⟩, .int .i64 0, .bool false, .int .i64 0, .int .i64 0, .int .i64 0, .int .i64 0, .int .i64 7]) (by simp [results, Tryz.results45, go_sem]) rfl ⟨_, rfl, fv_bad 7, (Below.refl _ _).alloc (Nat.le_refl _) _⟩
          · rw [quote_def h0 hc, if_neg (by rintro ⟨x1, x2, x3⟩; omega), if_neg (by rintro ⟨x1, x2, x3, x4, x5⟩; omega), if_neg (by rintro ⟨x1, x2, x3, x4, x5⟩; omega)]
            have hb1 := bt_eq s 1 (by omega)
            have hb2 := bt_eq s 2 (by omega)
            have hb3 := bt_eq s 3 (by omega)
            have z4 : decide ((4 : Int) ≤ (s.size : Int)) = true := by simp; omega
            have z4n : decide (4 ≤ s.size) = true := by simp; omega
            have a1 : (((bt s 1).toNat : Int) == 92) = false := by simp; omega
            have a1n : (((bt s 1).toNat : Int) != 92) = true := by simp; omega
            have z6 : decide ((6 : Int) ≤ (s.size : Int)) = false := by simp; omega
            have z6n : decide (6 ≤ s.size) = false := by simp; omega
            have z3 : decide ((3 : Int) ≤ (s.size : Int)) = true := by simp; omega
            have z3n : decide (3 ≤ s.size) = true := by simp; omega
            have v1 : decide ((32 : Int) ≤ ((bt s 1).toNat : Int)) = true := by simp; omega
            have v2 : decide (((bt s 1).toNat : Int) ≤ 126) = false := by simp; omega
            clear hc qa1 qv1 qv2
            go_enter Tryz.func45, Tryz.ntmps45
            go_wp2_with fail
            exact bodyPost_ret (v := .agg #[.int .i64 0, .string ⟨#[]⟩, .int .i64 0, .bool false, .int .i64 0, .int .i64 0, .int .i64 0, .int .i64 0, .int .i64 7]) (by simp [results, Tryz.results45, go_sem]) rfl ⟨_, rfl, fv_bad 7, (Below.refl _ _).alloc (Nat.le_refl _) _⟩
        · rw [quote_def h0 hc, if_neg (by rintro ⟨x1, x2, x3⟩; omega), if_neg (by rintro ⟨x1, x2, x3, x4, x5⟩; omega), if_neg (by rintro ⟨x1, x2, x3, x4, x5⟩; omega)]
          have hb1 := bt_eq s 1 (by omega)
          have hb2 := bt_eq s 2 (by omega)
          have hb3 := bt_eq s 3 (by omega)
          have z4 : decide ((4 : Int) ≤ (s.size : Int)) = true := by simp; omega
          have z4n : decide (4 ≤ s.size) = true := by simp; omega
          have a1 : (((bt s 1).toNat : Int) == 92) = false := by simp; omega
          have a1n : (((bt s 1).toNat : Int) != 92) = true := by simp; omega
          have z6 : decide ((6 : Int) ≤ (s.size : Int)) = false := by simp; omega
          have z6n : decide (6 ≤ s.size) = false := by simp; omega
          have z3 : decide ((3 : Int) ≤ (s.size : Int)) = true := by simp; omega
          have z3n : decide (3 ≤ s.size) = true := by simp; omega
          have v1 : decide ((32 : Int) ≤ ((bt s 1).toNat : Int)) = false := by simp; omega
          clear hc qa1 qv1
          go_enter Tryz.func45, Tryz.ntmps45
          go_wp2_with fail
          exact bodyPost_ret (v := .agg #[.int .i64 0, .string ⟨#[]⟩, .int .i64 0, .bool false, .int .i64 0, .int .i64 0, .int .i64 0, .int .i64 0, .int .i64 7]) (by simp [results, Tryz.results45, go_sem]) rfl ⟨_, rfl, fv_bad 7, (Below.refl _ _).alloc (Nat.le_refl _) _⟩
  · by_cases qz3 : 3 ≤ s.size
    · by_cases qv1 : 32 ≤ (bt s 1).toNat
      · by_cases qv2 : (bt s 1).toNat ≤ 126
        · by_cases qv3 : (bt s 1).toNat = 39
          · rw [quote_def h0 hc, if_neg (by rintro ⟨x1, x2, x3⟩; rw [bt_out s 3 (by omega)] at x3; exact absurd x3 (by decide)), if_neg (by rintro ⟨x1, x2, x3, x4, x5⟩; omega), if_neg (by rintro ⟨x1, x2, x3, x4, x5⟩; omega)]
            have hb1 := bt_eq s 1 (by omega)
            have hb2 := bt_eq s 2 (by omega)
            have z4 : decide ((4 : Int) ≤ (s.size : Int)) = false := by simp; omega
            have z4n : decide (4 ≤ s.size) = false := by simp; omega
            have z6 : decide ((6 : Int) ≤ (s.size : Int)) = false := by simp; omega
            have z6n : decide (6 ≤ s.size) = false := by simp; omega
            have z3 : decide ((3 : Int) ≤ (s.size : Int)) = true := by simp; omega
            have z3n : decide (3 ≤ s.size) = true := by simp; omega
            have v1 : decide ((32 : Int) ≤ ((bt s 1).toNat : Int)) = true := by simp; omega
            have v2 : decide (((bt s 1).toNat : Int) ≤ 126) = true := by simp; omega
            have v3 : (((bt s 1).toNat : Int) == 39) = true := by simp; omega
            have v3n : (((bt s 1).toNat : Int) != 39) = false := by simp; omega
            clear hc qv1 qv2 qv3
            go_enter Tryz.func45, Tryz.ntmps45
            go_wp2_with fail
            exact bodyPost_ret (v := .agg #[.int .i64 0, .string ⟨#[]⟩, .int .i64 0, .bool false, .int .i64 0, .int .i64 0, .int .i64 0, .int .i64 0, .int .i64 7]) (by simp [results, Tryz.results45, go_sem]) rfl ⟨_, rfl, fv_bad 7, (Below.refl _ _).alloc (Nat.le_refl _) _⟩
          · by_cases qa3 : (bt s 2).toNat = 39
            · by_cases qa1 : (bt s 1).toNat = 92
              · rw [quote_def h0 hc, if_neg (by rintro ⟨x1, x2, x3⟩; rw [bt_out s 3 (by omega)] at x3; exact absurd x3 (by decide)), if_neg (by rintro ⟨x1, x2, x3, x4, x5⟩; omega), if_neg (by rintro ⟨x1, x2, x3, x4, x5⟩; omega)]
                have hb1 := bt_eq s 1 (by omega)
                have hb2 := bt_eq s 2 (by omega)
                have z4 : decide ((4 : Int) ≤ (s.size : Int)) = false := by simp; omega
                have z4n : decide (4 ≤ s.size) = false := by simp; omega
                have z6 : decide ((6 : Int) ≤ (s.size : Int)) = false := by simp; omega
                have z6n : decide (6 ≤ s.size) = false := by simp; omega
                have z3 : decide ((3 : Int) ≤ (s.size : Int)) = true := by simp; omega
                have z3n : decide (3 ≤ s.size) = true := by simp; omega
                have v1 : decide ((32 : Int) ≤ ((bt s 1).toNat : Int)) = true := by simp; omega
                have v2 : decide (((bt s 1).toNat : Int) ≤ 126) = true := by simp; omega
                have v3 : (((bt s 1).toNat : Int) == 39) = false := by simp; omega
                have v3n : (((bt s 1).toNat : Int) != 39) = true := by simp; omega
                have a3 : (((bt s 2).toNat : Int) == 39) = true := by simp; omega
                have a3n : (((bt s 2).toNat : Int) != 39) = false := by simp; omega
                have a1 : (((bt s 1).toNat : Int) == 92) = true := by simp; omega
                have a1n : (((bt s 1).toNat : Int) != 92) = false := by simp; omega
                clear hc qv1 qv2 qv3 qa3 qa1
                go_enter Tryz.func45, Tryz.ntmps45
                go_wp2_with fail
                exact bodyPost_ret (v := .agg #[.int .i64 0, .string ⟨#[]⟩, .int .i64 0, .bool false, .int .i64 0, .int .i64 0, .int .i64 0, .int .i64 0, .int .i64 7]) (by simp [results, Tryz.results45, go_sem]) rfl ⟨_, rfl, fv_bad 7, (Below.refl _ _).alloc (Nat.le_refl _) _⟩
              · rw [quote_def h0 hc, if_neg (by rintro ⟨x1, x2, x3⟩; rw [bt_out s 3 (by omega)] at x3; exact absurd x3 (by decide)), if_neg (by rintro ⟨x1, x2, x3, x4, x5⟩; omega), if_pos (by omega)]
                have hb1 := bt_eq s 1 (by omega)
                have hb2 := bt_eq s 2 (by omega)
                have hl1 := UInt8.toNat_lt (bt s 1)
                have z4 : decide ((4 : Int) ≤ (s.size : Int)) = false := by simp; omega
                have z4n : decide (4 ≤ s.size) = false := by simp; omega
                have z6 : decide ((6 : Int) ≤ (s.size : Int)) = false := by simp; omega
                have z6n : decide (6 ≤ s.size) = false := by simp; omega
                have z3 : decide ((3 : Int) ≤ (s.size : Int)) = true := by simp; omega
                have z3n : decide (3 ≤ s.size) = true := by simp; omega
                have v1 : decide ((32 : Int) ≤ ((bt s 1).toNat : Int)) = true := by simp; omega
                have v2 : decide (((bt s 1).toNat : Int) ≤ 126) = true := by simp; omega
                have v3 : (((bt s 1).toNat : Int) == 39) = false := by simp; omega
                have v3n : (((bt s 1).toNat : Int) != 39) = true := by simp; omega
                have a3 : (((bt s 2).toNat : Int) == 39) = true := by simp; omega
                have a3n : (((bt s 2).toNat : Int) != 39) = false := by simp; omega
                have a1 : (((bt s 1).toNat : Int) == 92) = false := by simp; omega
                have a1n : (((bt s 1).toNat : Int) != 92) = true := by simp; omega
                clear hc qv1 qv2 qv3 qa3 qa1
                go_enter Tryz.func45, Tryz.ntmps45
                go_wp2_with fail
                exact bodyPost_ret (v := .agg #[.int .i64 4, .string ⟨#[]⟩, .int .i64 ((bt s 1).toNat : Nat), .bool false, .int .i64 0, .int .i64 0, .int .i64 0, .int .i64 3, .int .i64 0]) (by simp [results, Tryz.results45, go_sem]) rfl ⟨_, rfl, fv_ok 4 (bt s 1).toNat 3 [], (Below.refl _ _).alloc (Nat.le_refl _) _⟩
            · rw [quote_def h0 hc, if_neg (by rintro ⟨x1, x2, x3⟩; rw [bt_out s 3 (by omega)] at x3; exact absurd x3 (by decide)), if_neg (by rintro ⟨x1, x2, x3, x4, x5⟩; rw [bt_out s 5 (by omega)] at x5; exact absurd x5 (by decide)), if_neg (by rintro ⟨x1, x2, x3, x4, x5⟩; omega)]
              have hb1 := bt_eq s 1 (by omega)
              have hb2 := bt_eq s 2 (by omega)
              have z4 : decide ((4 : Int) ≤ (s.size : Int)) = false := by simp; omega
              have z4n : decide (4 ≤ s.size) = false := by simp; omega
              have z6 : decide ((6 : Int) ≤ (s.size : Int)) = false := by simp; omega
              have z6n : decide (6 ≤ s.size) = false := by simp; omega
              have z3 : decide ((3 : Int) ≤ (s.size : Int)) = true := by simp; omega
              have z3n : decide (3 ≤ s.size) = true := by simp; omega
              have v1 : decide ((32 : Int) ≤ ((bt s 1).toNat : Int)) = true := by simp; omega
              have v2 : decide (((bt s 1).toNat : Int) ≤ 126) = true := by simp; omega
              have v3 : (((bt s 1).toNat : Int) == 39) = false := by simp; omega
              have v3n : (((bt s 1).toNat : Int) != 39) = true := by simp; omega
              have a3 : (((bt s 2).toNat : Int) == 39) = false := by simp; omega
              have a3n : (((bt s 2).toNat : Int) != 39) = true := by simp; omega
              clear hc qv1 qv2 qv3 qa3
              go_enter Tryz.func45, Tryz.ntmps45
              go_wp2_with fail
              exact bodyPost_ret (v := .agg #[.int .i64 0, .string ⟨#[]⟩, .int .i64 0, .bool false, .int .i64 0, .int .i64 0, .int .i64 0, .int .i64 0, .int .i64 7]) (by simp [results, Tryz.results45, go_sem]) rfl ⟨_, rfl, fv_bad 7, (Below.refl _ _).alloc (Nat.le_refl _) _⟩
        · rw [quote_def h0 hc, if_neg (by rintro ⟨x1, x2, x3⟩; rw [bt_out s 3 (by omega)] at x3; exact absurd x3 (by decide)), if_neg (by rintro ⟨x1, x2, x3, x4, x5⟩; omega), if_neg (by rintro ⟨x1, x2, x3, x4, x5⟩; omega)]
          have hb1 := bt_eq s 1 (by omega)
          have hb2 := bt_eq s 2 (by omega)
          have z4 : decide ((4 : Int) ≤ (s.size : Int)) = false := by simp; omega
          have z4n : decide (4 ≤ s.size) = false := by simp; omega
          have z6 : decide ((6 : Int) ≤ (s.size : Int)) = false := by simp; omega
          have z6n : decide (6 ≤ s.size) = false := by simp; omega
          have z3 : decide ((3 : Int) ≤ (s.size : Int)) = true := by simp; omega
          have z3n : decide (3 ≤ s.size) = true := by simp; omega
          have v1 : decide ((32 : Int) ≤ ((bt s 1).toNat : Int)) = true := by simp; omega
          have v2 : decide (((bt s 1).toNat : Int) ≤ 126) = false := by simp; omega
          clear hc qv1 qv2
          go_enter Tryz.func45, Tryz.ntmps45
          go_wp2_with fail
          exact bodyPost_ret (v := .agg #[.int .i64 0, .string ⟨#[]⟩, .int .i64 0, .bool false, .int .i64 0, .int .i64 0, .int .i64 0, .int .i64 0, .int .i64 7]) (by simp [results, Tryz.results45, go_sem]) rfl ⟨_, rfl, fv_bad 7, (Below.refl _ _).alloc (Nat.le_refl _) _⟩
      · rw [quote_def h0 hc, if_neg (by rintro ⟨x1, x2, x3⟩; rw [bt_out s 3 (by omega)] at x3; exact absurd x3 (by decide)), if_neg (by rintro ⟨x1, x2, x3, x4, x5⟩; omega), if_neg (by rintro ⟨x1, x2, x3, x4, x5⟩; omega)]
        have hb1 := bt_eq s 1 (by omega)
        have hb2 := bt_eq s 2 (by omega)
        have z4 : decide ((4 : Int) ≤ (s.size : Int)) = false := by simp; omega
        have z4n : decide (4 ≤ s.size) = false := by simp; omega
        have z6 : decide ((6 : Int) ≤ (s.size : Int)) = false := by simp; omega
        have z6n : decide (6 ≤ s.size) = false := by simp; omega
        have z3 : decide ((3 : Int) ≤ (s.size : Int)) = true := by simp; omega
        have z3n : decide (3 ≤ s.size) = true := by simp; omega
        have v1 : decide ((32 : Int) ≤ ((bt s 1).toNat : Int)) = false := by simp; omega
        clear hc qv1
        go_enter Tryz.func45, Tryz.ntmps45
        go_wp2_with fail
        exact bodyPost_ret (v := .agg #[.int .i64 0, .string ⟨#[]⟩, .int .i64 0, .bool false, .int .i64 0, .int .i64 0, .int .i64 0, .int .i64 0, .int .i64 7]) (by simp [results, Tryz.results45, go_sem]) rfl ⟨_, rfl, fv_bad 7, (Below.refl _ _).alloc (Nat.le_refl _) _⟩
    · rw [quote_def h0 hc, if_neg (by rintro ⟨x1, x2, x3⟩; rw [bt_out s 3 (by omega)] at x3; exact absurd x3 (by decide)), if_neg (by rintro ⟨x1, x2, x3, x4, x5⟩; rw [bt_out s 5 (by omega)] at x5; exact absurd x5 (by decide)), if_neg (by rintro ⟨x1, x2, x3, x4, x5⟩; rw [bt_out s 2 (by omega)] at x4; exact absurd x4 (by decide))]
      have z4 : decide ((4 : Int) ≤ (s.size : Int)) = false := by simp; omega
      have z4n : decide (4 ≤ s.size) = false := by simp; omega
      have z6 : decide ((6 : Int) ≤ (s.size : Int)) = false := by simp; omega
      have z6n : decide (6 ≤ s.size) = false := by simp; omega
      have z3 : decide ((3 : Int) ≤ (s.size : Int)) = false := by simp; omega
      have z3n : decide (3 ≤ s.size) = false := by simp; omega
      clear hc 
      go_enter Tryz.func45, Tryz.ntmps45
      go_wp2_with fail
      exact bodyPost_ret (v := .agg #[.int .i64 0, .string ⟨#[]⟩, .int .i64 0, .bool false, .int .i64 0, .int .i64 0, .int .i64 0, .int .i64 0, .int .i64 7]) (by simp [results, Tryz.results45, go_sem]) rfl ⟨_, rfl, fv_bad 7, (Below.refl _ _).alloc (Nat.le_refl _) _⟩
end Go.Proofs.YtjdmaindoohmkaaGreatDoor
