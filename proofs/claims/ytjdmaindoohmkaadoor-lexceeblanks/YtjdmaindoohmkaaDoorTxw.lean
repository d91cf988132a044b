/-
  The reference's CharText and Text, walked.
-/
import Derived.Test.YtjdmaindoohmkaaDoorBlp
import Derived.Test.YtjdmaindoohmkaaDoorAux
import Derived.Test.YtjdmaindoohmkaaDoorRefP
namespace Go.Proofs.YtjdmaindoohmkaaDoor
open Go.RowKit Go.Sort

theorem str_ret {a b : ByteArray} (h : a = b) : Ending.returned (.string a) = .returned (.string b) := by rw [h]
theorem cat_l (a b : List UInt8) : (ByteArray.mk a.toArray) ++ (ByteArray.mk b.toArray) = ByteArray.mk (a ++ b).toArray := by
  apply ByteArray.ext
  simp
theorem char_esc {n : Nat} (h : n = 39 ∨ n = 92) : charL n = [39, 92, UInt8.ofNat n, 39] := by unfold charL; rw [if_pos h]
theorem char_vis {n : Nat} (h : ¬ (n = 39 ∨ n = 92)) (h1 : 32 ≤ n) (h2 : n ≤ 126) : charL n = [39, UInt8.ofNat n, 39] := by unfold charL; rw [if_neg h, decide_eq_true h1, decide_eq_true h2]; rfl
theorem char_num {n : Nat} (h : ¬ (n = 39 ∨ n = 92)) (h1 : ¬ (32 ≤ n ∧ n ≤ 126)) : charL n = [39, 92, 120, hexD (n / 16), hexD (n % 16), 39] := by
  unfold charL
  rw [if_neg h, if_neg (by simpa using h1)]
def hexS : ByteArray := ⟨#[48, 49, 50, 51, 52, 53, 54, 55, 56, 57, 97, 98, 99, 100, 101, 102]⟩
theorem hexS_at (k : Nat) (h : k < 16) : bt hexS k = hexD k := by
  have : ∀ k : Fin 16, bt hexS k.val = hexD k.val := by decide +kernel
  exact this ⟨k, h⟩
theorem u8_nat (n : Nat) (h : n ≤ 255) : (UInt8.ofNat n).toNat = n := by simp; omega
theorem below_drew {B : Nat} {a w : World} (h : Below B a w) : Below B a w.drew := ⟨h.os, h.tape, h.output, h.size, h.block⟩
/-- A list of bytes, laid out just now, as a text. -/
theorem back_any (w : World) (l : List UInt8) (cs : Array Value) (hc : cs = (l.map fun b => Value.int .u8 (b.toNat : Int)).toArray) :
    (convert 34 9 (.slice (some ⟨w.heap.size, 0, none⟩) l.length l.length)).run Tryd.prog (w.alloc (.cells cs 5)) = .ok (.string ⟨l.toArray⟩) (w.alloc (.cells cs 5)) := by
  refine run_convert_bytes_back (P := Tryd.prog) (w.alloc (.cells cs 5)) 34 9 5 ⟨w.heap.size, 0, none⟩ l.length l Tryd.underlying34 Tryd.underlying5 Tryd.underlying9 (fun j hj => ?_)
  rw [add_mid2, cell_new, hc]
  have hj2 : j < l.length := hj
  simp [List.getElem?_eq_getElem hj2]
theorem back_drew (w : World) (l : List UInt8) (cs : Array Value) (hc : cs = (l.map fun b => Value.int .u8 (b.toNat : Int)).toArray) :
    (convert 34 9 (.slice (some ⟨w.heap.size, 0, none⟩) l.length l.length)).run Tryd.prog (w.alloc (.cells cs 5)).drew = .ok (.string ⟨l.toArray⟩) (w.alloc (.cells cs 5)).drew := by
  refine run_convert_bytes_back (P := Tryd.prog) (w.alloc (.cells cs 5)).drew 34 9 5 ⟨w.heap.size, 0, none⟩ l.length l Tryd.underlying34 Tryd.underlying5 Tryd.underlying9 (fun j hj => ?_)
  show (w.alloc (.cells cs 5)).cell? _ = _
  rw [add_mid2, cell_new, hc]
  have hj2 : j < l.length := hj
  simp [List.getElem?_eq_getElem hj2]
theorem itoa_nat (n : Nat) : Lib.itoa (n : Int) = Lib.decDigits n := by unfold Lib.itoa; rw [if_neg (by omega)]; rfl
set_option maxHeartbeats 2000000 in
theorem charText_any (n : Nat) (w : World) (hn : n ≤ 255) : Calls Tryd.prog 21 #[.int .i64 1, .int .i64 (n : Int)] w fun e w' => e = .returned (.string ⟨(charL n).toArray⟩) ∧ Below w.heap.size w w' := by
  have hw : IntKind.u8.wrap (n : Int) = (n : Int) := IntWalk.u8_in _ (by omega)
  have h0 : (0 : Int) ≤ (n : Int) := by omega
  have h1 : (n : Int) ≤ 255 := by omega
  by_cases he : n = 39 ∨ n = 92
  · rw [char_esc he]
    rcases he with rfl | rfl
    · have hcv := back_any w [92, 39] #[.int .u8 92, .int .u8 39] rfl
      rw [show ([92, 39] : List UInt8).length = 2 from rfl] at hcv
      go_enter Tryd.func21, Tryd.ntmps21
      go_wp2_with fail
      go_ret
      exact ⟨str_ret rfl, (Below.refl _ _).alloc (Nat.le_refl _) _⟩
    · have hcv := back_any w [92, 92] #[.int .u8 92, .int .u8 92] rfl
      rw [show ([92, 92] : List UInt8).length = 2 from rfl] at hcv
      go_enter Tryd.func21, Tryd.ntmps21
      go_wp2_with fail
      go_ret
      exact ⟨str_ret rfl, (Below.refl _ _).alloc (Nat.le_refl _) _⟩
  · have d1 : ((n : Int) == 39) = false := by simp; omega
    have d1' : ((n : Int) == 92) = false := by simp; omega
    by_cases hv : 32 ≤ n ∧ n ≤ 126
    · rw [char_vis he hv.1 hv.2]
      have d2 : decide ((32 : Int) ≤ (n : Int)) = true := by simp; omega
      have d3 : decide ((n : Int) ≤ 126) = true := by simp; omega
      have hcv := back_any w [UInt8.ofNat n] #[.int .u8 (n : Int)] (by simp [u8_nat n hn])
      rw [show [UInt8.ofNat n].length = 1 from rfl] at hcv
      clear he hv
      go_enter Tryd.func21, Tryd.ntmps21
      go_wp2_with fail
      go_ret
      exact ⟨str_ret rfl, (Below.refl _ _).alloc (Nat.le_refl _) _⟩
    · obtain ⟨q, hq⟩ : ∃ q, q = n / 16 := ⟨_, rfl⟩
      obtain ⟨r, hr⟩ : ∃ r, r = n % 16 := ⟨_, rfl⟩
      rw [char_num he hv, ← hq, ← hr]
      have q16 : q < 16 := by omega
      have r16 : r < 16 := by omega
      have e1 : (n : Int).tdiv 16 = (q : Int) := by rw [Int.tdiv_eq_ediv_of_nonneg h0]; omega
      have e1' : (n : Int) / 16 = (q : Int) := by omega
      have e2 : (n : Int).tmod 16 = (r : Int) := by rw [Int.tmod_eq_emod_of_nonneg h0]; omega
      have e2' : (n : Int) % 16 = (r : Int) := by omega
      clear hq hr
      have g1 : (ByteArray.mk #[48, 49, 50, 51, 52, 53, 54, 55, 56, 57, 97, 98, 99, 100, 101, 102])[q]'(show q < 16 from q16) = hexD q := (bt_eq hexS q q16).trans (hexS_at q q16)
      have g2 : (ByteArray.mk #[48, 49, 50, 51, 52, 53, 54, 55, 56, 57, 97, 98, 99, 100, 101, 102])[r]'(show r < 16 from r16) = hexD r := (bt_eq hexS r r16).trans (hexS_at r r16)
      have hcv := back_drew w [92, 120, hexD q, hexD r] #[.int .u8 92, .int .u8 120, .int .u8 ((hexD q).toNat : Int), .int .u8 ((hexD r).toNat : Int)] rfl
      rw [show [92, 120, hexD q, hexD r].length = 4 from rfl] at hcv
      have q1 : (q : Int) < 16 := by omega
      have q2 : (r : Int) < 16 := by omega
      have q3 : (0 : Int) ≤ (q : Int) := by omega
      have q4 : (0 : Int) ≤ (r : Int) := by omega
      have w1 : IntKind.u8.wrap (q : Int) = (q : Int) := IntWalk.u8_in _ (by omega)
      have w2 : IntKind.u8.wrap (r : Int) = (r : Int) := IntWalk.u8_in _ (by omega)
      by_cases h32 : 32 ≤ n
      · have d2 : decide ((32 : Int) ≤ (n : Int)) = true := by simp; omega
        have d3 : decide ((n : Int) ≤ 126) = false := by simp; omega
        clear he hv
        go_enter Tryd.func21, Tryd.ntmps21
        go_wp2_with fail
        go_region
        go_wp2_with fail
        go_ret
        exact ⟨str_ret rfl, below_drew ((Below.refl _ _).alloc (Nat.le_refl _) _)⟩
      · have d2 : decide ((32 : Int) ≤ (n : Int)) = false := by simp; omega
        clear he hv
        go_enter Tryd.func21, Tryd.ntmps21
        go_wp2_with fail
        go_region
        go_wp2_with fail
        go_ret
        exact ⟨str_ret rfl, below_drew ((Below.refl _ _).alloc (Nat.le_refl _) _)⟩
set_option maxHeartbeats 2000000 in
theorem text_any (t : Tk) (w : World) (hg : GoodT t) :
    Calls Tryd.prog 16 #[.int .i64 1, .agg #[.int .i64 (t.kind : Nat), .string ⟨t.text.toArray⟩, .int .i64 (t.n : Nat), .bool t.same, .int .i64 (t.pos : Nat), .int .i64 (t.line : Nat), .int .i64 (t.col : Nat)]] w fun e w' => e = .returned (.string ⟨(textT t).toArray⟩) ∧ Below w.heap.size w w' := by
  obtain ⟨kind, text, n, sm, ps, ln, cl⟩ := t
  rcases hg with ⟨h, h2, h3⟩ | ⟨hk1, hn, hnm, hkd⟩ | ⟨hk3, htx, hn⟩ | ⟨hk4, htx, hn⟩ | ⟨hk5, hn, hsg⟩ | ⟨hk6, hn, hck⟩
  · have h : kind = 0 := h
    subst h
    rw [text_0 rfl]
    clear h2 h3
    go_enter Tryd.func16, Tryd.ntmps16
    go_wp2_with fail
    go_ret
    exact ⟨rfl, (Below.refl _ _).alloc (Nat.le_refl _) _⟩
  · have hk1 : kind = 1 ∨ kind = 2 := hk1
    rw [text_t (by rcases hk1 with h | h; exact .inl h; exact .inr (.inl h))]
    clear hn hnm hkd
    rcases hk1 with rfl | rfl
    all_goals
      go_enter Tryd.func16, Tryd.ntmps16
      go_wp2_with fail
      go_ret
      exact ⟨rfl, (Below.refl _ _).alloc (Nat.le_refl _) _⟩
  · have h : kind = 3 := hk3
    subst h
    rw [text_3 rfl]
    have hn : n ≤ 9223372036854775807 := hn
    clear htx hk3
    go_enter Tryd.func16, Tryd.ntmps16
    go_wp2_with fail
    refine (refDigits_pos (n : Int) _ (by omega) (by omega)).mono ?_
    rw [itoa_nat]
    rintro e w1 ⟨rfl, m, rfl⟩
    go_wp2_with fail
    go_ret
    exact ⟨rfl, below_drewN ((Below.refl _ _).alloc (Nat.le_refl _) _) _⟩
  · have h : kind = 4 := hk4
    subst h
    rw [text_4 rfl]
    have hn : n ≤ 255 := hn
    clear htx hk4
    go_enter Tryd.func16, Tryd.ntmps16
    go_wp2_with fail
    refine (charText_any n _ hn).mono ?_
    rintro e w1 ⟨rfl, b1⟩
    have B1 := Lib.hid (((Below.refl w.heap.size w).alloc (Nat.le_refl _) _).trans (b1.mono (by simp)))
    clear b1
    go_wp2_with fail
    go_ret
    exact ⟨rfl, B1.out⟩
  · have h : kind = 5 := hk5
    subst h
    rw [text_t (.inr (.inr rfl))]
    clear hn hsg hk5
    go_enter Tryd.func16, Tryd.ntmps16
    go_wp2_with fail
    go_ret
    exact ⟨rfl, (Below.refl _ _).alloc (Nat.le_refl _) _⟩
  · have h : kind = 6 := hk6
    subst h
    rw [text_6 rfl]
    have hz : (ByteArray.mk text.toArray).size ≤ 1024 := by rw [ba_len]; exact (check_zero hck).1
    clear hn hck hk6
    go_enter Tryd.func16, Tryd.ntmps16
    go_wp2_with fail
    refine (refPrint_1 ⟨text.toArray⟩ _ hz).mono ?_
    rintro e w1 ⟨rfl, b1⟩
    have B1 := Lib.hid (((Below.refl w.heap.size w).alloc (Nat.le_refl _) _).trans (b1.mono (by simp)))
    clear b1
    go_wp2_with fail
    go_ret
    exact ⟨rfl, B1.out⟩
end Go.Proofs.YtjdmaindoohmkaaDoor
