/-
  The document's examples ('awake') hold, in every world.
-/
import Derived.Test.YthfldflilddpfaaDoorRcl
import Derived.Test.YthfldflilddpfaaDoorRfr
namespace Go.Proofs.YthfldflilddpfaaDoor
open Go.RowKit

theorem isIn_eq (x : ByteArray) (l : List ByteArray) : isIn x l = l.any (fun y => y.data.toList == x.data.toList) := by
  unfold isIn
  simp only [ByteArray.toList_eq]
def begT : ByteArray := ⟨#[98, 101, 103, 105, 110]⟩
def aT : ByteArray := ⟨#[97]⟩
def a1T : ByteArray := ⟨#[97, 95, 49]⟩
def a2T : ByteArray := ⟨#[97, 95, 50]⟩
def xT : ByteArray := ⟨#[120]⟩
def intT : ByteArray := ⟨#[105, 110, 116]⟩
def putT : ByteArray := ⟨#[112, 117, 116]⟩
theorem pas_one : ∀ x ∈ pasW, x.size ≠ 1 := by decide
theorem cee_one : ∀ x ∈ ceeW, x.size ≠ 1 := by decide
theorem beg_one : cand begT 1 = ⟨#[98, 101, 103, 105, 110, 95, 49]⟩ := by
  rw [cand_succ begT 0, Lib.decDigits_one (by decide)]; rfl
theorem a_one : cand aT 1 = a1T := by
  rw [cand_succ aT 0, Lib.decDigits_one (by decide)]; rfl
theorem a_two : cand aT 2 = a2T := by
  rw [cand_succ aT 1, Lib.decDigits_one (by decide)]; rfl
theorem fr_beg {t : ByteArray} (h : IsFresh begT [] t) : t = ⟨#[98, 101, 103, 105, 110, 95, 49]⟩ := by
  refine h.uniq ⟨1, beg_one.symm, ?_, fun j hj => ?_⟩
  · rw [← beg_one, mem_used]
    rintro (h1 | h1 | h1)
    · simp at h1
    · exact cand_noPas _ _ h1
    · exact cand_noCee _ _ h1
  · obtain rfl : j = 0 := by omega
    rw [cand_zero, mem_used, wordsOf_0]
    exact .inr (.inl (List.mem_of_getElem? (i := 2) rfl))
theorem fr_a {t : ByteArray} (h : IsFresh aT [] t) : t = aT := by
  refine h.uniq (IsFresh.self ?_)
  rw [mem_used]
  rintro (h1 | h1 | h1)
  · simp at h1
  · exact pas_one _ h1 rfl
  · exact cee_one _ h1 rfl
theorem fr_a2 {t : ByteArray} (h : IsFresh aT [aT, a1T] t) : t = a2T := by
  refine h.uniq ⟨2, a_two.symm, ?_, fun j hj => ?_⟩
  · rw [mem_used]
    rintro (h1 | h1 | h1)
    · have h2 := (isIn_iff _ _).2 h1
      rw [isIn_eq] at h2
      exact absurd h2 (by decide)
    · rw [← a_two] at h1
      exact cand_noPas _ _ h1
    · rw [← a_two] at h1
      exact cand_noCee _ _ h1
  · rw [mem_used]
    left
    match j, hj with
    | 0, _ => rw [cand_zero]; simp
    | 1, _ => rw [a_one]; simp
theorem clash_ex : clash (wordsOf 1) [xT, intT, putT, intT] = [intT, putT] := by
  rw [wordsOf_1]
  unfold clash
  simp only [isIn_eq]
  decide

set_option maxHeartbeats 800000 in
theorem awake_any (w : World) : Calls Tryd.prog 14 #[] w fun e w' => e = .returned (.bool true) ∧ Below w.heap.size w w' := by
  go_enter Tryd.func14, Tryd.ntmps14
  go_wp2_with fail
  refine (fresh_any begT none 0 0 [] _ (by decide) (IsStrs.nil _) (by omega)).mono ?_
  rintro e w1 ⟨t, rfl, ht, _, b1⟩
  obtain rfl := fr_beg ht
  have B1 := Lib.hid b1
  clear b1 ht
  go_wp2_with fail
  refine (fresh_any aT none 0 0 [] _ (by decide) (IsStrs.nil _) (by omega)).mono ?_
  rintro e w2 ⟨t, rfl, ht, _, b2⟩
  obtain rfl := fr_a ht
  have B2 := Lib.hid (B1.out.trans (b2.mono B1.out.size))
  clear b2 ht B1
  unfold aT
  go_wp2_with fail
  have S2 := lit_strs w2 [aT, a1T] (by simp [maxLen]) (by decide)
  have B2' := Lib.hid (B2.out.alloc B2.out.size (.cells #[.string aT, .string a1T] 9))
  refine (fresh_any aT _ 2 2 [aT, a1T] _ (by decide) S2 (by omega)).mono ?_
  rintro e w3 ⟨t, rfl, ht, _, b3⟩
  obtain rfl := fr_a2 ht
  have B3 := Lib.hid (B2'.out.trans (b3.mono (Nat.le_trans B2.out.size (by simp))))
  clear b3 ht B2 B2' S2
  unfold a2T
  go_wp2_with fail
  have S3 := lit_strs w3 [xT, intT, putT, intT] (by simp [maxLen]) (by decide)
  have B3' := Lib.hid (B3.out.alloc B3.out.size (.cells #[.string xT, .string intT, .string putT, .string intT] 9))
  refine (clash_any 1 _ 4 4 [xT, intT, putT, intT] _ S3 (by omega)).mono ?_
  rintro e w4 ⟨v, rfl, o4, b4⟩
  rw [clash_ex] at o4
  have B4 := Lib.hid (B3'.out.trans (b4.mono (Nat.le_trans B3.out.size (by simp))))
  clear b4 B3 B3' S3
  obtain ⟨a4, c4, rfl, S4⟩ := o4.strs (by decide)
  have H4 := Lib.hid S4
  clear o4 S4
  go_wp2_with fail
  have S5 := lit_strs w4 [intT, putT] (by simp [maxLen]) (by decide)
  have B5 := Lib.hid (B4.out.alloc B4.out.size (.cells #[.string intT, .string putT] 9))
  refine (sameTexts_any _ _ _ _ _ _ [intT, putT] [intT, putT] _ (H4.out.below ((Below.refl _ _).alloc (Nat.le_refl _) _)) S5).mono ?_
  rw [sameL_refl]
  rintro e w6 ⟨rfl, n, rfl⟩
  have B6 := Lib.hid (below_drewN B5.out n)
  go_wp2_with fail
  go_ret
  exact ⟨rfl, B6.out⟩
end Go.Proofs.YthfldflilddpfaaDoor
