/-
  The reference's CharText and Text, walked.
-/
import Derived.Test.YtjdmaindoohmkaaDoorPBlp
import Derived.Test.YtjdmaindoohmkaaDoorPByt
import Derived.Test.YtjdmaindoohmkaaDoorPPlaWalk
import Derived.Test.YtjdmaindoohmkaaDoorRefP
namespace Go.Proofs.YtjdmaindoohmkaaDoor.P
open Go.RowKit Go.Sort

theorem str_ret {a b : ByteArray} (h : a = b) : Ending.returned (.string a) = .returned (.string b) := by rw [h]
theorem cat_l (a b : List UInt8) : (ByteArray.mk a.toArray) ++ (ByteArray.mk b.toArray) = ByteArray.mk (a ++ b).toArray := by
  apply ByteArray.ext
  simp
theorem char_39 {n : Nat} (h : n = 39) : charL n = [39, 39, 39, 39] := by unfold charL; rw [if_pos h]
theorem char_vis {n : Nat} (h : n ≠ 39) (h1 : 32 ≤ n) (h2 : n ≤ 126) : charL n = [39, UInt8.ofNat n, 39] := by unfold charL; rw [if_neg h, decide_eq_true h1, decide_eq_true h2]; rfl
theorem char_num {n : Nat} (h : n ≠ 39) (h1 : ¬ (32 ≤ n ∧ n ≤ 126)) : charL n = 35 :: Lib.decDigits n := by
  unfold charL
  rw [if_neg h, if_neg (by simpa using h1)]
theorem itoa_nat (n : Nat) : Lib.itoa (n : Int) = Lib.decDigits n := by unfold Lib.itoa; rw [if_neg (by omega)]; rfl
set_option maxHeartbeats 1000000 in
theorem charText_any (n : Nat) (w : World) (hn : n ≤ 255) : Calls Tryd.prog 21 #[.int .i64 0, .int .i64 (n : Int)] w fun e w' => e = .returned (.string ⟨(charL n).toArray⟩) ∧ Below w.heap.size w w' := by
  have hw : IntKind.u8.wrap (n : Int) = (n : Int) := IntWalk.u8_in _ (by omega)
  have h0 : (0 : Int) ≤ (n : Int) := by omega
  have h1 : (n : Int) ≤ 255 := by omega
  have hdz : (ByteArray.mk (Lib.decDigits n).toArray).size ≤ 3 := by rw [ba_len]; exact dd_le 3 n (by omega) (by omega)
  by_cases h39 : n = 39
  · rw [char_39 h39]
    subst h39
    go_enter Tryd.func21, Tryd.ntmps21
    go_wp2_with fail
    go_ret
    exact ⟨rfl, Below.refl _ _⟩
  · have d1 : ((n : Int) == 39) = false := by simp; omega
    by_cases hv : 32 ≤ n ∧ n ≤ 126
    · rw [char_vis h39 hv.1 hv.2]
      have d2 : decide ((32 : Int) ≤ (n : Int)) = true := by simp; omega
      have d3 : decide ((n : Int) ≤ 126) = true := by simp; omega
      have hcv := run_convert_bytes_back (P := Tryd.prog) (w.alloc (.cells #[.int .u8 (n : Int)] 5)) 34 9 5 ⟨w.heap.size, 0, none⟩ 1 [UInt8.ofNat n] Tryd.underlying34 Tryd.underlying5 Tryd.underlying9 (fun j hj => by
        have hj0 : j = 0 := by simp at hj; exact hj
        subst hj0
        rw [add_mid2, cell_new]
        show some (Value.int .u8 (n : Int)) = some (Value.int .u8 ((UInt8.ofNat n).toNat : Int))
        rw [show (UInt8.ofNat n).toNat = n by simp; omega])
      rw [show [UInt8.ofNat n].length = 1 from rfl] at hcv
      clear h39 hv
      go_enter Tryd.func21, Tryd.ntmps21
      go_wp2_with fail
      go_ret
      exact ⟨str_ret rfl, (Below.refl _ _).alloc (Nat.le_refl _) _⟩
    · rw [char_num h39 hv]
      by_cases h32 : 32 ≤ n
      · have d2 : decide ((32 : Int) ≤ (n : Int)) = true := by simp; omega
        have d3 : decide ((n : Int) ≤ 126) = false := by simp; omega
        clear h39 hv
        go_enter Tryd.func21, Tryd.ntmps21
        go_wp2_with fail
        refine (refDigits_pos (n : Int) _ (by omega) (by omega)).mono ?_
        rw [itoa_nat]
        generalize hD : (ByteArray.mk (Lib.decDigits n).toArray) = D at hdz ⊢
        have HD := Lib.hid hD
        clear hD
        rintro e w1 ⟨rfl, m, rfl⟩
        go_wp2_with fail
        go_ret
        rw [← HD.out]
        exact ⟨str_ret (cat_l [35] _), below_drewN (Below.refl _ _) _⟩
      · have d2 : decide ((32 : Int) ≤ (n : Int)) = false := by simp; omega
        clear h39 hv
        go_enter Tryd.func21, Tryd.ntmps21
        go_wp2_with fail
        refine (refDigits_pos (n : Int) _ (by omega) (by omega)).mono ?_
        rw [itoa_nat]
        generalize hD : (ByteArray.mk (Lib.decDigits n).toArray) = D at hdz ⊢
        have HD := Lib.hid hD
        clear hD
        rintro e w1 ⟨rfl, m, rfl⟩
        go_wp2_with fail
        go_ret
        rw [← HD.out]
        exact ⟨str_ret (cat_l [35] _), below_drewN (Below.refl _ _) _⟩
set_option maxHeartbeats 2000000 in
theorem text_any (t : Tk) (w : World) (hg : GoodT t) :
    Calls Tryd.prog 16 #[.int .i64 0, .agg #[.int .i64 (t.kind : Nat), .string ⟨t.text.toArray⟩, .int .i64 (t.n : Nat), .bool t.same, .int .i64 (t.pos : Nat), .int .i64 (t.line : Nat), .int .i64 (t.col : Nat)]] w fun e w' => e = .returned (.string ⟨(textT t).toArray⟩) ∧ Below w.heap.size w w' := by
  obtain ⟨kind, text, n, sm, ps, ln, cl⟩ := t
  rcases hg with ⟨h, h2, h3⟩ | ⟨hk1, hn, nm, hnm, htx, hkd⟩ | ⟨hk3, htx, hn⟩ | ⟨hk4, htx, hn⟩ | ⟨hk5, hn, hsg⟩ | ⟨hk6, hn, hck⟩
  · have h : kind = 0 := h
    subst h
    rw [text_0 rfl]
    clear h2 h3
    go_enter Tryd.func16, Tryd.ntmps16
    go_wp2_with fail
    go_ret
    exact ⟨rfl, (Below.refl _ _).alloc (Nat.le_refl _) _⟩
  · have hk1 : kind = 1 ∨ kind = 2 := hk1
    rw [text_t (by rcases hk1 with h | h; exact .inl h; exact .inr (.inl h))]
    clear hn hnm htx hkd
    rcases hk1 with rfl | rfl
    all_goals
      go_enter Tryd.func16, Tryd.ntmps16
      go_wp2_with fail
      go_ret
      exact ⟨rfl, (Below.refl _ _).alloc (Nat.le_refl _) _⟩
  · have h : kind = 3 := hk3
    subst h
    rw [text_3 rfl]
    have hn : n ≤ 9223372036854775807 := hn
    clear htx hk3
    go_enter Tryd.func16, Tryd.ntmps16
    go_wp2_with fail
    refine (refDigits_pos (n : Int) _ (by omega) (by omega)).mono ?_
    rw [itoa_nat]
    rintro e w1 ⟨rfl, m, rfl⟩
    go_wp2_with fail
    go_ret
    exact ⟨rfl, below_drewN ((Below.refl _ _).alloc (Nat.le_refl _) _) _⟩
  · have h : kind = 4 := hk4
    subst h
    rw [text_4 rfl]
    have hn : n ≤ 255 := hn
    clear htx hk4
    go_enter Tryd.func16, Tryd.ntmps16
    go_wp2_with fail
    refine (charText_any n _ hn).mono ?_
    rintro e w1 ⟨rfl, b1⟩
    have B1 := Lib.hid (((Below.refl w.heap.size w).alloc (Nat.le_refl _) _).trans (b1.mono (by simp)))
    clear b1
    go_wp2_with fail
    go_ret
    exact ⟨rfl, B1.out⟩
  · have h : kind = 5 := hk5
    subst h
    rw [text_t (.inr (.inr rfl))]
    clear hn hsg hk5
    go_enter Tryd.func16, Tryd.ntmps16
    go_wp2_with fail
    go_ret
    exact ⟨rfl, (Below.refl _ _).alloc (Nat.le_refl _) _⟩
  · have h : kind = 6 := hk6
    subst h
    rw [text_6 rfl]
    have hz : (ByteArray.mk text.toArray).size ≤ 1024 := by rw [ba_len]; exact (check_zero hck).1
    clear hn hck hk6
    go_enter Tryd.func16, Tryd.ntmps16
    go_wp2_with fail
    refine (refPrint_0 ⟨text.toArray⟩ _ hz).mono ?_
    rintro e w1 ⟨rfl, b1⟩
    have B1 := Lib.hid (((Below.refl w.heap.size w).alloc (Nat.le_refl _) _).trans (b1.mono (by simp)))
    clear b1
    go_wp2_with fail
    go_ret
    exact ⟨rfl, B1.out⟩
end Go.Proofs.YtjdmaindoohmkaaDoor.P
