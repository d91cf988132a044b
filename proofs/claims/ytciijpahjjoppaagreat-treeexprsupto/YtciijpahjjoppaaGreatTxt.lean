/-
  Words, names and fresh texts, plainly.
-/
import Derived.Lib.ItoaNum
import Derived.WalkKit
namespace Go.Proofs.YtciijpahjjoppaaGreat
open Go.RowKit

/-- Is a text one of some? -/
def isIn (x : ByteArray) (l : List ByteArray) : Bool := l.any fun y => y.toList == x.toList
theorem beq_iff (x y : ByteArray) : (x.toList == y.toList) = true ↔ x = y := by
  rw [beq_iff_eq, ByteArray.toList_eq, ByteArray.toList_eq]
  exact ⟨fun h => ByteArray.ext (Array.ext' h), fun h => by rw [h]⟩
theorem beq_false (x y : ByteArray) : (x.toList == y.toList) = false ↔ x ≠ y := by
  rw [← Bool.not_eq_true, ne_eq, beq_iff]
theorem isIn_iff (x : ByteArray) (l : List ByteArray) : isIn x l = true ↔ x ∈ l := by
  unfold isIn
  rw [List.any_eq_true]
  exact ⟨fun ⟨y, hy, h⟩ => by rw [← (beq_iff y x).1 h]; exact hy, fun h => ⟨x, h, (beq_iff x x).2 rfl⟩⟩
theorem isIn_not (x : ByteArray) (l : List ByteArray) : isIn x l = false ↔ x ∉ l := by rw [← Bool.not_eq_true, isIn_iff]
theorem isIn_congr {x y : ByteArray} {l m : List ByteArray} (h : x ∈ l ↔ y ∈ m) : isIn x l = isIn y m := by
  rw [Bool.eq_iff_iff, isIn_iff, isIn_iff]; exact h
def pasW : List ByteArray := [⟨#[97, 110, 100]⟩, ⟨#[97, 114, 114, 97, 121]⟩, ⟨#[98, 101, 103, 105, 110]⟩, ⟨#[98, 111, 111, 108, 101, 97, 110]⟩, ⟨#[99, 104, 97, 114]⟩, ⟨#[100, 105, 118]⟩, ⟨#[100, 111]⟩, ⟨#[100, 111, 119, 110, 116, 111]⟩, ⟨#[101, 108, 115, 101]⟩, ⟨#[101, 110, 100]⟩, ⟨#[102, 97, 108, 115, 101]⟩, ⟨#[102, 111, 114]⟩, ⟨#[102, 111, 114, 119, 97, 114, 100]⟩, ⟨#[102, 117, 110, 99, 116, 105, 111, 110]⟩, ⟨#[105, 102]⟩, ⟨#[105, 110, 116, 101, 103, 101, 114]⟩, ⟨#[109, 111, 100]⟩, ⟨#[110, 111, 116]⟩, ⟨#[111, 102]⟩, ⟨#[111, 114]⟩, ⟨#[112, 114, 111, 99, 101, 100, 117, 114, 101]⟩, ⟨#[112, 114, 111, 103, 114, 97, 109]⟩, ⟨#[114, 101, 97, 100]⟩, ⟨#[114, 101, 99, 111, 114, 100]⟩, ⟨#[114, 101, 112, 101, 97, 116]⟩, ⟨#[114, 101, 116, 117, 114, 110]⟩, ⟨#[116, 104, 101, 110]⟩, ⟨#[116, 111]⟩, ⟨#[116, 114, 117, 101]⟩, ⟨#[116, 121, 112, 101]⟩, ⟨#[117, 110, 116, 105, 108]⟩, ⟨#[118, 97, 114]⟩, ⟨#[119, 104, 105, 108, 101]⟩, ⟨#[119, 114, 105, 116, 101]⟩]
def ceeW : List ByteArray := [⟨#[98, 111, 111, 108]⟩, ⟨#[99, 104, 97, 114]⟩, ⟨#[100, 111]⟩, ⟨#[100, 111, 119, 110, 116, 111]⟩, ⟨#[101, 108, 115, 101]⟩, ⟨#[102, 97, 108, 115, 101]⟩, ⟨#[102, 111, 114]⟩, ⟨#[103, 101, 116]⟩, ⟨#[105, 102]⟩, ⟨#[105, 110, 116]⟩, ⟨#[109, 97, 105, 110]⟩, ⟨#[112, 114, 111, 103, 114, 97, 109]⟩, ⟨#[112, 117, 116]⟩, ⟨#[114, 101, 116, 117, 114, 110]⟩, ⟨#[115, 116, 114, 117, 99, 116]⟩, ⟨#[116, 111]⟩, ⟨#[116, 114, 117, 101]⟩, ⟨#[117, 110, 116, 105, 108]⟩, ⟨#[117, 112]⟩, ⟨#[118, 111, 105, 100]⟩, ⟨#[119, 104, 105, 108, 101]⟩]
/-- The words of a dialect. -/
def wordsOf (d : Int) : List ByteArray := if d = 0 then pasW else if d = 1 then ceeW else []
theorem wordsOf_0 : wordsOf 0 = pasW := rfl
theorem wordsOf_1 : wordsOf 1 = ceeW := rfl
theorem wordsOf_no (d : Int) (h0 : d ≠ 0) (h1 : d ≠ 1) : wordsOf d = [] := by unfold wordsOf; rw [if_neg h0, if_neg h1]
theorem pas_len : pasW.length = 34 := rfl
theorem cee_len : ceeW.length = 21 := rfl
theorem words_len (d : Int) : (wordsOf d).length ≤ 34 := by
  unfold wordsOf; split
  · rw [pas_len]; omega
  · split
    · rw [cee_len]; omega
    · simp
theorem pas_small : ∀ x ∈ pasW, x.size ≤ 9 := by decide
theorem cee_small : ∀ x ∈ ceeW, x.size ≤ 9 := by decide
theorem words_small (d : Int) : ∀ x ∈ wordsOf d, x.size ≤ 9 := by
  unfold wordsOf; split
  · exact pas_small
  · split
    · exact cee_small
    · simp
theorem pas_no : ∀ x ∈ pasW, (95 : UInt8) ∉ x.data.toList := by decide
theorem cee_no : ∀ x ∈ ceeW, (95 : UInt8) ∉ x.data.toList := by decide

/-- The n-th one of s, s_1, s_2, .. -/
def cand (s : ByteArray) (n : Nat) : ByteArray := if n = 0 then s else ⟨(s.data.toList.take 24 ++ 95 :: Lib.decDigits n).toArray⟩
theorem cand_zero (s : ByteArray) : cand s 0 = s := rfl
theorem cand_succ (s : ByteArray) (n : Nat) : cand s (n + 1) = ⟨(s.data.toList.take 24 ++ 95 :: Lib.decDigits (n + 1)).toArray⟩ := rfl
theorem dd_pos (u : Nat) : 0 < (Lib.decDigits u).length := by
  rw [Lib.decDigits]; split <;> simp
theorem dd_step {u : Nat} (h : ¬ u < 10) : Lib.decDigits u = Lib.decDigits (u / 10) ++ [UInt8.ofNat (48 + u % 10)] := by
  rw [Lib.decDigits, dif_neg h]
theorem ofNat_inj {a b : Nat} (ha : a < 10) (hb : b < 10) (h : UInt8.ofNat (48 + a) = UInt8.ofNat (48 + b)) : a = b := by
  have h2 := congrArg UInt8.toNat h
  simp only [UInt8.toNat_ofNat'] at h2
  omega
theorem dd_inj (a : Nat) : ∀ b, Lib.decDigits a = Lib.decDigits b → a = b := by
  induction a using Nat.strongRecOn with
  | ind a ih =>
    intro b h
    by_cases ha : a < 10
    · by_cases hb : b < 10
      · rw [Lib.decDigits_one ha, Lib.decDigits_one hb] at h
        exact ofNat_inj ha hb (by simpa using h)
      · rw [Lib.decDigits_one ha, dd_step hb] at h
        have h2 := congrArg List.length h
        have h3 := dd_pos (b / 10)
        rw [List.length_append] at h2
        simp only [List.length_singleton] at h2
        omega
    · by_cases hb : b < 10
      · rw [Lib.decDigits_one hb, dd_step ha] at h
        have h2 := congrArg List.length h
        have h3 := dd_pos (a / 10)
        rw [List.length_append] at h2
        simp only [List.length_singleton] at h2
        omega
      · rw [dd_step ha, dd_step hb] at h
        obtain ⟨h1, h2⟩ := List.append_inj' h rfl
        have e1 := ih (a / 10) (by omega) (b / 10) h1
        have e2 := ofNat_inj (a := a % 10) (b := b % 10) (by omega) (by omega) (by simpa using h2)
        omega
theorem cand_inj (s : ByteArray) {a b : Nat} (h : cand s (a + 1) = cand s (b + 1)) : a = b := by
  rw [cand_succ, cand_succ] at h
  have h1 := congrArg (fun x : ByteArray => x.data.toList) h
  simp only [] at h1
  have h2 := List.append_cancel_left h1
  have h3 := dd_inj _ _ (List.cons.inj h2).2
  omega
theorem cand_95 (s : ByteArray) (n : Nat) : (95 : UInt8) ∈ (cand s (n + 1)).data.toList := by
  rw [cand_succ]; simp
theorem cand_noPas (s : ByteArray) (n : Nat) : cand s (n + 1) ∉ wordsOf 0 := fun h => pas_no _ h (cand_95 s n)
theorem cand_noCee (s : ByteArray) (n : Nat) : cand s (n + 1) ∉ wordsOf 1 := fun h => cee_no _ h (cand_95 s n)

/-- What Fresh must not tell. -/
def used (taken : List ByteArray) : List ByteArray := taken ++ (wordsOf 0 ++ wordsOf 1)
theorem mem_used (taken : List ByteArray) (x : ByteArray) : x ∈ used taken ↔ x ∈ taken ∨ x ∈ wordsOf 0 ∨ x ∈ wordsOf 1 := by simp [used]
/-- t is the first one of s, s_1, .. that is not used. -/
def IsFresh (s : ByteArray) (taken : List ByteArray) (t : ByteArray) : Prop := ∃ k, t = cand s k ∧ t ∉ used taken ∧ ∀ j, j < k → cand s j ∈ used taken
theorem IsFresh.uniq {s : ByteArray} {taken : List ByteArray} {t u : ByteArray} (h : IsFresh s taken t) (g : IsFresh s taken u) : t = u := by
  obtain ⟨k, rfl, h1, h2⟩ := h
  obtain ⟨m, rfl, g1, g2⟩ := g
  rcases Nat.lt_trichotomy k m with c | c | c
  · exact absurd (g2 k c) h1
  · rw [c]
  · exact absurd (h2 m c) g1
theorem nodup_le {α : Type} [DecidableEq α] : ∀ (l m : List α), l.Nodup → (∀ x ∈ l, x ∈ m) → l.length ≤ m.length
  | [], m, _, _ => Nat.zero_le _
  | a :: r, m, hn, hs => by
    have h1 := (List.nodup_cons.1 hn)
    have hm := hs a (by simp)
    have ih := nodup_le r (m.erase a) h1.2 (fun x hx => (List.mem_erase_of_ne (fun e => h1.1 (by rw [← e]; exact hx))).2 (hs x (by simp [hx])))
    have hl := List.length_erase_of_mem hm
    have hp := List.length_pos_of_mem hm
    simp
    omega
/-- As many as were told to be used are taken. -/
theorem cand_bound (s : ByteArray) (taken : List ByteArray) (k : Nat) (h : ∀ j, j < k → cand s (j + 1) ∈ used taken) : k ≤ taken.length := by
  have hn : ((List.range k).map fun j => cand s (j + 1)).Nodup := by
    rw [List.nodup_iff_pairwise_ne, List.pairwise_map]
    exact (List.nodup_iff_pairwise_ne.1 List.nodup_range).imp (fun {a b} hne e => hne (cand_inj s e))
  haveI : DecidableEq ByteArray := fun a b => Classical.propDecidable _
  have := nodup_le _ taken hn (fun x hx => by
    obtain ⟨j, hj, rfl⟩ := List.mem_map.1 hx
    rcases (mem_used _ _).1 (h j (List.mem_range.1 hj)) with h1 | h1 | h1
    · exact h1
    · exact absurd h1 (cand_noPas s j)
    · exact absurd h1 (cand_noCee s j))
  simpa using this
theorem fresh_bound {s : ByteArray} {taken : List ByteArray} {k : Nat} (h : ∀ j, j < k → cand s j ∈ used taken) : k ≤ taken.length + 1 := by
  cases k with
  | zero => omega
  | succ m =>
    have := cand_bound s taken m (fun j hj => h (j + 1) (by omega))
    omega
theorem IsFresh.self {s : ByteArray} {taken : List ByteArray} (h : s ∉ used taken) : IsFresh s taken s := ⟨0, rfl, h, fun j hj => by omega⟩
theorem IsFresh.not {s t : ByteArray} {taken : List ByteArray} (h : IsFresh s taken t) : t ∉ used taken := by obtain ⟨k, rfl, h1, _⟩ := h; exact h1
theorem IsFresh.eq_iff {s t : ByteArray} {taken : List ByteArray} (h : IsFresh s taken t) : t = s ↔ s ∉ used taken :=
  ⟨fun e => e ▸ h.not, fun g => h.uniq (IsFresh.self g)⟩
theorem cand_size (s : ByteArray) (n : Nat) (h : n < 100) (hs : s.size ≤ maxLen) : (cand s n).size ≤ maxLen := by
  cases n with
  | zero => exact hs
  | succ m =>
    rw [cand_succ]
    have h2 : (Lib.decDigits (m + 1)).length ≤ 2 := by
      by_cases c : m + 1 < 10
      · rw [Lib.decDigits_one c]; simp
      · rw [Lib.decDigits_two c h]; simp
    show (s.data.toList.take 24 ++ 95 :: Lib.decDigits (m + 1)).toArray.size ≤ maxLen
    have h3 : (s.data.toList.take 24).length ≤ 24 := List.length_take_le _ _
    rw [List.size_toArray, List.length_append, List.length_cons]
    unfold maxLen
    omega

/-- Those names that are words of the dialect, each once. -/
def clash (ws : List ByteArray) (names : List ByteArray) : List ByteArray := names.foldl (fun acc x => if isIn x ws && !isIn x acc then acc ++ [x] else acc) []
theorem clash_nil (ws : List ByteArray) : clash ws [] = [] := rfl
theorem clash_snoc (ws names : List ByteArray) (x : ByteArray) : clash ws (names ++ [x]) = if isIn x ws && !isIn x (clash ws names) then clash ws names ++ [x] else clash ws names := by
  unfold clash; rw [List.foldl_append]; rfl
theorem take_snoc {names : List ByteArray} {k : Nat} {x : ByteArray} (h : names[k]? = some x) : names.take (k + 1) = names.take k ++ [x] := by
  rw [List.take_add_one, h]; rfl
theorem clash_len (ws : List ByteArray) : ∀ names : List ByteArray, (clash ws names).length ≤ names.length := by
  intro names
  suffices h : ∀ (names acc : List ByteArray), (names.foldl (fun acc x => if isIn x ws && !isIn x acc then acc ++ [x] else acc) acc).length ≤ acc.length + names.length by
    have := h names []
    simpa [clash] using this
  intro names
  induction names with
  | nil => intro acc; simp
  | cons a r ih =>
    intro acc
    rw [List.foldl_cons]
    refine Nat.le_trans (ih _) ?_
    split <;> simp <;> omega
theorem clash_mem (ws : List ByteArray) (names : List ByteArray) : ∀ x ∈ clash ws names, x ∈ ws := by
  suffices h : ∀ (names acc : List ByteArray), (∀ x ∈ acc, x ∈ ws) → ∀ x ∈ names.foldl (fun acc x => if isIn x ws && !isIn x acc then acc ++ [x] else acc) acc, x ∈ ws from h names [] (by simp)
  intro names
  induction names with
  | nil => intro acc h; exact h
  | cons a r ih =>
    intro acc h
    rw [List.foldl_cons]
    refine ih _ ?_
    split
    · rename_i c
      intro x hx
      rcases List.mem_append.1 hx with g | g
      · exact h x g
      · rw [List.mem_singleton.1 g]; exact (isIn_iff _ _).1 (by revert c; cases isIn a ws <;> simp)
    · exact h
end Go.Proofs.YtciijpahjjoppaaGreat
