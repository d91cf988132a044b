/-
  Names of Cee, part by part, plainly.
-/
import Derived.Test.YtjdmaindoohmkaaGreatDoorLx
import Derived.Lib.Join
namespace Go.Proofs.YtjdmaindoohmkaaGreatDoor
open Go.RowKit

theorem nam_not36 (c : UInt8) (h : isNam c = true) : (c == 36) = false := by
  cases hc : c == 36 with
  | false => rfl
  | true => have e : c = 36 := by simpa using hc
            subst e; exact absurd h (by decide)
/-- A name is its first part, and the rest. -/
theorem nm_part (l : List UInt8) : nmL l = l.takeWhile isNam ++ nmL (l.dropWhile isNam) := by
  induction l with
  | nil => rfl
  | cons c r ih =>
    rw [List.takeWhile_cons, List.dropWhile_cons]
    split
    · rename_i h; rw [nmL, if_pos h, List.cons_append, ← ih]
    · rfl
/-- Where no part goes on: another one, or the end. -/
theorem nm_stop (l : List UInt8) (h : ∀ c r, l = c :: r → isNam c = false) : nmL l = if more l = true then 36 :: nmL (l.drop 1) else [] := by
  cases l with
  | nil => rfl
  | cons c r =>
    have hc := h c r rfl
    rw [nmL, hc, if_neg (by decide)]
    split
    · rename_i hm
      unfold more at hm
      split at hm
      · rename_i e; obtain ⟨rfl, rfl⟩ := List.cons.inj e; rfl
      · cases hm
    · rfl
theorem dw_stop (l : List UInt8) : ∀ c r, l.dropWhile isNam = c :: r → isNam c = false := by
  induction l with
  | nil => intro c r h; cases h
  | cons x q ih =>
    intro c r h
    rw [List.dropWhile_cons] at h
    split at h
    · exact ih c r h
    · rename_i hx
      obtain ⟨rfl, _⟩ := List.cons.inj h
      simpa using hx
def Ends (l : List UInt8) : Prop := l = [] ∨ ∃ r, l = 36 :: r
theorem ends_stop (l : List UInt8) (h : ∀ c r, l = c :: r → isNam c = false) : Ends (nmL l) := by
  rw [nm_stop l h]
  split
  · exact .inr ⟨_, rfl⟩
  · exact .inl rfl
theorem long_end {l : List UInt8} (h : Ends l) (p q : Nat) : longP p l = longP q l := by
  rcases h with rfl | ⟨r, rfl⟩
  · rfl
  · rfl
theorem long_part {rest : List UInt8} (hr : Ends rest) : ∀ (t : List UInt8) (p : Nat), (∀ c ∈ t, isNam c = true) → p ≤ 32 → longP p (t ++ rest) = (decide (32 < p + t.length) || longP 0 rest) := by
  intro t
  induction t with
  | nil =>
    intro p _ hp
    rw [List.nil_append, long_end hr p 0, List.length_nil, decide_eq_false (by omega), Bool.false_or]
  | cons c r ih =>
    intro p h hp
    have hc := nam_not36 c (h c (by simp))
    rw [List.cons_append, longP, if_neg (by rw [hc]; decide), List.length_cons]
    by_cases h32 : p = 32
    · subst h32
      rw [decide_eq_true (by omega), Bool.true_or, decide_eq_true (by omega), Bool.true_or]
    · rw [decide_eq_false (by omega), Bool.false_or, ih (p + 1) (fun x hx => h x (by simp [hx])) (by omega), show p + 1 + r.length = p + (r.length + 1) by omega]
/-- The texts of a name's parts, with the mark between them. -/
def joinP (ps : List ByteArray) : List UInt8 := Lib.join (ps.map (·.data.toList)) [36]
theorem joinP_one (t : ByteArray) : joinP [t] = t.data.toList := Lib.join_one _ _
theorem joinP_snoc (ps : List ByteArray) (t : ByteArray) (h : ps ≠ []) : joinP (ps ++ [t]) = joinP ps ++ 36 :: t.data.toList := by
  cases ps with
  | nil => exact absurd rfl h
  | cons a r =>
    unfold joinP
    rw [List.cons_append, List.map_cons, List.map_cons, Lib.join_cons, Lib.join_cons]
    simp [Lib.joinTail]
def longB (t : ByteArray) : Bool := decide (32 < t.size)
/-- What the scanner's Name makes of a name's parts. -/
def nameP (ps : List ByteArray) (d : Int) : Fd := if ps.any longB = true then bad 3 else ⟨if isIn ⟨(joinP ps).toArray⟩ (wordsOf d) = true then 2 else 1, joinP ps, 0, (joinP ps).length, 0⟩
/-- What has been read of the name that l begins with. -/
structure Parts (l : List UInt8) (ps : List ByteArray) (r : List UInt8) : Prop where
  ne : ps ≠ []
  nm : nmL l = joinP ps ++ nmL r
  lg : longP 0 (nmL l) = (ps.any longB || longP 0 (nmL r))
  st : ∀ c q, r = c :: q → isNam c = false
theorem ba_size (l : List UInt8) : (ByteArray.mk l.toArray).size = l.length := by
  have := len_size (ByteArray.mk l.toArray)
  simpa using this.symm
theorem tw_isNam (l : List UInt8) : ∀ c ∈ l.takeWhile isNam, isNam c = true := by
  induction l with
  | nil => intro c h; cases h
  | cons x r ih =>
    intro c h
    rw [List.takeWhile_cons] at h
    split at h
    · rename_i hx
      rcases List.mem_cons.1 h with rfl | h
      · exact hx
      · exact ih c h
    · cases h
theorem Parts.first (l : List UInt8) : Parts l [⟨(l.takeWhile isNam).toArray⟩] (l.dropWhile isNam) := by
  have hs := dw_stop l
  refine ⟨by simp, ?_, ?_, hs⟩
  · rw [joinP_one]; exact nm_part l
  · rw [nm_part l, long_part (ends_stop _ hs) _ 0 (tw_isNam l) (by omega), Nat.zero_add]
    simp [longB, ba_size]
theorem Parts.next {l r : List UInt8} {ps : List ByteArray} (h : Parts l ps r) (hm : more r = true) : Parts l (ps ++ [⟨((r.drop 1).takeWhile isNam).toArray⟩]) ((r.drop 1).dropWhile isNam) := by
  have hs := dw_stop (r.drop 1)
  have e := nm_stop r h.st
  rw [if_pos hm] at e
  refine ⟨by simp, ?_, ?_, hs⟩
  · rw [h.nm, e, joinP_snoc _ _ h.ne, nm_part (r.drop 1)]
    simp
  · rw [h.lg, e, List.any_append, Bool.or_assoc]
    congr 1
    rw [longP, if_pos (by decide), nm_part (r.drop 1), long_part (ends_stop _ hs) _ 0 (tw_isNam _) (by omega), Nat.zero_add]
    simp [longB, ba_size]
theorem Parts.last {l r : List UInt8} {ps : List ByteArray} (h : Parts l ps r) (hm : more r = false) : nameP ps 1 = nameL (nmL l) := by
  have e := nm_stop r h.st
  rw [hm, if_neg (by decide)] at e
  have e1 := h.nm
  have e2 := h.lg
  rw [e, List.append_nil] at e1
  rw [e, show longP 0 [] = false from rfl, Bool.or_false] at e2
  unfold nameP nameL nameK
  rw [← e1, e2]
/-- How long a name is that has no part too long. -/
theorem Parts.used {l r : List UInt8} {ps : List ByteArray} (h : Parts l ps r) (hm : more r = false) : (joinP ps).length = (nmL l).length := by
  have e := nm_stop r h.st
  rw [hm, if_neg (by decide)] at e
  rw [h.nm, e, List.append_nil]
end Go.Proofs.YtjdmaindoohmkaaGreatDoor
