/-
  What is printed of any expression that is right.
-/
import Derived.Test.YtpcldpnaljheoaaGreatDoorPd8
namespace Go.Proofs.YtpcldpnaljheoaaGreatDoor
open Go.RowKit Go.Deep

def prT : Nat → List D → List UInt8
  | 0, _ => []
  | k + 1, [.int op, .int n, .str nm, .str fd, .row l] =>
    if op = 1 then Lib.itoa n
    else if op = 2 then (truP n).data.toList
    else if op = 3 then charP n
    else if op = 4 then nm.data.toList
    else if op = 5 then idxP nm (prT k (l.headD []))
    else if op = 6 then nm.data.toList ++ 46 :: fd.data.toList
    else if op = 7 then calP nm (prT k) l
    else if op = 8 ∨ op = 9 then ahdP op (prT k) (l.headD [])
    else btwP op (prT k) (l.headD []) ((l.drop 1).headD [])
  | _ + 1, _ => []
/-- What an expression that is right is like. -/
structure RightE (k : Nat) (op n : Int) (l : List (List D)) : Prop where
  lo : 1 ≤ op
  hi : op ≤ 24
  all : ∀ y ∈ l, okE 0 k y = true
  n1 : op = 1 → 0 ≤ n ∧ n ≤ 9223372036854775807
  n2 : op = 2 → 0 ≤ n ∧ n ≤ 1
  n3 : op = 3 → 0 ≤ n ∧ n ≤ 255
  l5 : (op = 5 ∨ op = 8 ∨ op = 9) → ∃ y, l = [y]
  l10 : 10 ≤ op → ∃ y z, l = [y, z]
theorem okE_right {k : Nat} {op n : Int} {nm fd : ByteArray} {l : List (List D)} (h : okE 0 (k + 1) [.int op, .int n, .str nm, .str fd, .row l] = true) : RightE k op n l := by
  have hall : ∀ {f : List D → Bool} {m : List (List D)}, okAll m f = true → ∀ y ∈ m, f y = true := fun {f m} h y hy => by
    unfold okAll at h
    rw [Bool.and_eq_true] at h
    exact List.all_eq_true.1 h.2 y hy
  unfold okE at h
  by_cases h7 : op = 7
  · rw [if_pos (by simp [h7])] at h
    unfold callE at h
    simp only [Bool.and_eq_true] at h
    have hf : firstU 0 l = l.length := rfl
    rw [hf, List.take_length] at h
    exact ⟨by omega, by omega, hall h.2.2.2.2.1, by omega, by omega, by omega, by omega, by omega⟩
  · rw [if_neg (by simp [h7])] at h
    unfold formE at h
    simp only [Bool.and_eq_true, decide_eq_true_eq] at h
    obtain ⟨hk, h0, h1, _, _, hl, ha⟩ := h
    have hop : op = 1 ∨ op = 2 ∨ op = 3 ∨ op = 4 ∨ op = 5 ∨ op = 6 ∨ op = 8 ∨ op = 9 ∨ (10 ≤ op ∧ op ≤ 24) := by
      unfold fok wthn at hk
      simp only [Bool.or_eq_true, decide_eq_true_eq, Bool.and_eq_true] at hk
      omega
    have hlen : (l.length : Int) = fops op := by simpa using hl
    unfold fmost at h1
    unfold fops at hlen
    refine ⟨by omega, by omega, hall ha, fun e => ?_, fun e => ?_, fun e => ?_, fun e => ?_, fun e => ?_⟩
    · subst e; rw [if_pos rfl] at h1; exact ⟨h0, h1⟩
    · subst e; rw [if_neg (by omega), if_pos rfl] at h1; exact ⟨h0, h1⟩
    · subst e; rw [if_neg (by omega), if_neg (by omega), if_pos rfl] at h1; exact ⟨h0, h1⟩
    · rw [if_neg (by omega), if_pos e] at hlen
      match l, hlen with
      | [y], _ => exact ⟨y, rfl⟩
    · rw [if_neg (by omega), if_neg (by omega)] at hlen
      match l, hlen with
      | [y, z], _ => exact ⟨y, z, rfl⟩
theorem okE_op {k : Nat} {x : List D} (h : okE 0 k x = true) (hs : ShE x) : 1 ≤ opX x ∧ opX x ≤ 24 := by
  cases k with
  | zero => unfold okE at h; cases h
  | succ k =>
    cases hs with
    | mk op n nm fd l _ =>
      have R := okE_right h
      exact ⟨R.lo, R.hi⟩
theorem prT_any : ∀ (k : Nat) (x : List D), okE 0 k x = true → ShE x → ∀ w0 q, Tb w0 → PrFn w0 q (prT k) x
  | 0, x, h, _ => by unfold okE at h; cases h
  | k + 1, x, h, hs => by
    intro w0 q hT vs hv acc W hP hl
    obtain ⟨op, n, nm, fd, l, la, lc, rfl, rfl, _, _, hnm, hfd, hA, hks⟩ := hv.openE hs
    have R := okE_right h
    have ih : ∀ y ∈ l, PrFn w0 q (prT k) y := fun y hy => prT_any k y (R.all y hy) (hks y hy) w0 q hT
    have hop : op = 1 ∨ op = 2 ∨ op = 3 ∨ op = 4 ∨ op = 5 ∨ op = 6 ∨ op = 7 ∨ (op = 8 ∨ op = 9) ∨ (10 ≤ op ∧ op ≤ 24) := by have := R.lo; have := R.hi; omega
    unfold prT at hl ⊢
    rcases hop with e | e | e | e | e | e | e | e | e
    · subst e
      rw [if_pos rfl] at hl ⊢
      exact pr_int (R.n1 rfl).1 (R.n1 rfl).2 hP hT hl
    · subst e
      rw [if_neg (by omega), if_pos rfl] at hl ⊢
      obtain ⟨h0, h1⟩ := R.n2 rfl
      obtain ⟨m, rfl⟩ := Int.eq_ofNat_of_zero_le h0
      exact pr_bool (by omega) hP hl
    · subst e
      rw [if_neg (by omega), if_neg (by omega), if_pos rfl] at hl ⊢
      exact pr_chr (R.n3 rfl).1 (R.n3 rfl).2 hP hT hl
    · subst e
      rw [if_neg (by omega), if_neg (by omega), if_neg (by omega), if_pos rfl] at hl ⊢
      exact pr_var hnm hP hl
    · obtain ⟨y, rfl⟩ := R.l5 (.inl e)
      subst e
      rw [if_neg (by omega), if_neg (by omega), if_neg (by omega), if_neg (by omega), if_pos rfl] at hl ⊢
      exact pr_index (ih y (List.mem_singleton.2 rfl)) (hks y (List.mem_singleton.2 rfl)) hA rfl hnm hP hl
    · subst e
      rw [if_neg (by omega), if_neg (by omega), if_neg (by omega), if_neg (by omega), if_neg (by omega), if_pos rfl] at hl ⊢
      exact pr_field hnm hfd hP hl
    · subst e
      rw [if_neg (by omega), if_neg (by omega), if_neg (by omega), if_neg (by omega), if_neg (by omega), if_neg (by omega), if_pos rfl] at hl ⊢
      exact pr_call hP fun U p => Go.Proofs.YtpcldpnaljheoaaGreatDoor.call_any ih hks hA hnm p hl
    · obtain ⟨y, rfl⟩ := R.l5 (.inr e)
      have hm : y ∈ [y] := List.mem_singleton.2 rfl
      rw [if_neg (by omega), if_neg (by omega), if_neg (by omega), if_neg (by omega), if_neg (by omega), if_neg (by omega), if_neg (by omega), if_pos e] at hl ⊢
      exact pr_ahead e hP fun U p => ahead_any (ih y hm) (hks y hm) (okE_op (R.all y hm) (hks y hm)).2 (by omega) hA rfl p hl (sgn_size op)
    · obtain ⟨y, z, rfl⟩ := R.l10 e.1
      have hy : y ∈ [y, z] := by simp
      have hz : z ∈ [y, z] := by simp
      rw [if_neg (by omega), if_neg (by omega), if_neg (by omega), if_neg (by omega), if_neg (by omega), if_neg (by omega), if_neg (by omega), if_neg (by omega)] at hl ⊢
      exact pr_between e hP fun U p => between_any (ih y hy) (ih z hz) (hks y hy) (hks z hz) (okE_op (R.all y hy) (hks y hy)).2 (okE_op (R.all z hz) (hks z hz)).2 e.2 hA rfl rfl p hl (sgn_size op)
end Go.Proofs.YtpcldpnaljheoaaGreatDoor
