/-
  Comments, plainly: what a text's form is, and how a form is read; what is printed is read as it was.
-/
import Derived.Test.YtjdmaindoohmkaaDoorPos
import Derived.Lib.Strings
namespace Go.Proofs.YtjdmaindoohmkaaDoor
open Go.RowKit

theorem drop_bt (s : ByteArray) (k : Nat) (h : k < s.size) : s.data.toList.drop k = bt s k :: s.data.toList.drop (k + 1) := by
  rw [List.drop_eq_getElem_cons (by simpa using h), ← bt_eq s k h]; rfl
theorem drop_end (s : ByteArray) (k : Nat) (h : ¬ k < s.size) : s.data.toList.drop k = [] := by
  apply List.drop_eq_nil_of_le; simp; omega
theorem len_size (s : ByteArray) : s.data.toList.length = s.size := by simp

/-- May a text have it? (of a rune) -/
def okZ (r : Int) : Bool := r == 9 || r == 10 || (decide (32 ≤ r) && decide (r ≤ 126))
def okB (c : UInt8) : Bool := okZ c.toNat
def opL (d : Int) : List UInt8 := if d = 0 then [123] else [47, 42]
def clL (d : Int) : List UInt8 := if d = 0 then [125] else [42, 47]
def cl0 (d : Int) : UInt8 := if d = 0 then 125 else 42
def opA (d : Int) : ByteArray := ⟨(opL d).toArray⟩
def clA (d : Int) : ByteArray := ⟨(clL d).toArray⟩
theorem opA_l (d : Int) : (opA d).data.toList = opL d := rfl
theorem clA_l (d : Int) : (clA d).data.toList = clL d := rfl
theorem opA_0 : opA 0 = ⟨#[123]⟩ := rfl
theorem opA_1 : opA 1 = ⟨#[47, 42]⟩ := rfl
theorem clA_0 : clA 0 = ⟨#[125]⟩ := rfl
theorem clA_1 : clA 1 = ⟨#[42, 47]⟩ := rfl
/-- Does the closing begin here? -/
def clos (d : Int) (l : List UInt8) : Bool := Lib.hasPrefix l (clL d)
def begs (d : Int) (l : List UInt8) : Bool := Lib.hasPrefix l (opL d)
def shield (d : Int) (c : UInt8) (r : List UInt8) : Bool := c == 92 || clos d (c :: r)
def body (d : Int) : List UInt8 → List UInt8
  | [] => []
  | c :: r => (if shield d c r then [92, c] else [c]) ++ body d r
def form (d : Int) (l : List UInt8) : List UInt8 := opL d ++ body d l ++ clL d
def rd (d : Int) : List UInt8 → Bool → List UInt8 → Nat → List UInt8 × Nat × Nat
  | [], _, _, _ => ([], 0, 8)
  | c :: r, true, acc, u => if (c == 92 || c == cl0 d) = true then (if acc.length = 1024 then ([], 0, 3) else rd d r false (acc ++ [c]) (u + 1)) else ([], 0, 8)
  | c :: r, false, acc, u =>
    if clos d (c :: r) = true then (acc, u + (clL d).length, 0)
    else if (c == 92) = true then rd d r true acc (u + 1)
    else if okB c = false then ([], 0, 8)
    else if acc.length = 1024 then ([], 0, 3)
    else rd d r false (acc ++ [c]) (u + 1)
def Dia (d : Int) : Prop := d = 0 ∨ d = 1
def diaB (d : Int) : Bool := d == 0 || d == 1
theorem Dia.b {d : Int} (h : Dia d) : diaB d = true := by rcases h with rfl | rfl <;> rfl
theorem not_dia {d : Int} (h : ¬ Dia d) : diaB d = false := by
  unfold diaB; unfold Dia at h; simp; omega
def readL (d : Int) (l : List UInt8) : List UInt8 × Nat × Nat :=
  if diaB d = false then ([], 0, 1) else if begs d l = false then ([], 0, 8) else rd d (l.drop (opL d).length) false [] (opL d).length
def begL (d : Int) (l : List UInt8) : Bool := diaB d && begs d l
def checkL (l : List UInt8) : Nat := if 1024 < l.length then 3 else if l.all okB = false then 8 else 0
def errL (d : Int) (l : List UInt8) : Nat := if diaB d = false then 1 else checkL l
def printL (d : Int) (l : List UInt8) : List UInt8 := if errL d l = 0 then form d l else []

theorem opL_len (d : Int) : (opL d).length ≤ 2 := by unfold opL; split <;> simp
theorem clL_len (d : Int) : (clL d).length ≤ 2 := by unfold clL; split <;> simp
theorem rd_bd (d : Int) (n : Nat) : ∀ l sh acc u, acc.length ≤ 1024 → u + l.length = n → (rd d l sh acc u).1.length ≤ 1024 ∧ (rd d l sh acc u).2.1 ≤ n + 2 ∧ (rd d l sh acc u).2.2 ≤ 8 := by
  intro l
  induction l with
  | nil => intro sh acc u h _; cases sh <;> simp [rd]
  | cons c r ih =>
    intro sh acc u h hn
    simp only [List.length_cons] at hn
    have hc := clL_len d
    cases sh with
    | true =>
      simp only [rd]
      split
      · split
        · simp
        · exact ih _ _ _ (by simp; omega) (by omega)
      · simp
    | false =>
      simp only [rd]
      split
      · simp; omega
      · split
        · exact ih _ _ _ h (by omega)
        · split
          · simp
          · split
            · simp
            · exact ih _ _ _ (by simp; omega) (by omega)

theorem hp_cons (x c : UInt8) (xs r : List UInt8) : Lib.hasPrefix (c :: r) (x :: xs) = (x == c && Lib.hasPrefix r xs) := rfl
theorem hp_nil (r : List UInt8) : Lib.hasPrefix r [] = true := rfl
theorem clos0 (c : UInt8) (r : List UInt8) : clos 0 (c :: r) = (125 == c) := by simp [clos, hp_cons, hp_nil, clL]
theorem clos1 (c : UInt8) (r : List UInt8) : clos 1 (c :: r) = (42 == c && Lib.hasPrefix r [47]) := by simp [clos, hp_cons, clL]
theorem clos_nil (d : Int) : clos d [] = false := by unfold clos Lib.hasPrefix clL; split <;> rfl

/-- Behind a text's byte that isn't shielded no closing stands. -/
theorem open_byte (d : Int) (hd : Dia d) (c : UInt8) (r b : List UInt8) (h : shield d c r = false) : clos d (c :: (body d r ++ clL d ++ b)) = false ∧ (c == 92) = false := by
  have h2 : (c == 92) = false ∧ clos d (c :: r) = false := by simpa [shield] using h
  refine ⟨?_, h2.1⟩
  rcases hd with rfl | rfl
  · rw [clos0]; rw [clos0] at h2; exact h2.2
  · rw [clos1]; rw [clos1] at h2
    cases hc : (42 == c) with
    | false => rfl
    | true =>
      rw [hc] at h2
      cases r with
      | nil => simp [body, clL, hp_cons, hp_nil]
      | cons e t =>
        have h3 : (47 == e) = false := by have := h2.2; simpa [hp_cons, hp_nil] using this
        simp only [body, Bool.true_and]
        split
        · simp [hp_cons, hp_nil]
        · simp [hp_cons, hp_nil]; simpa using h3
theorem shut_byte (d : Int) (hd : Dia d) (c : UInt8) (r : List UInt8) (h : shield d c r = true) : (c == 92 || c == cl0 d) = true := by
  unfold shield at h
  rcases hd with rfl | rfl
  · rw [clos0] at h; simp [cl0] at *; rcases h with h | h <;> simp [h]
  · rw [clos1] at h; simp [cl0] at *; rcases h with h | h <;> simp [h]
theorem clos_92 (d : Int) (hd : Dia d) (l : List UInt8) : clos d (92 :: l) = false := by
  rcases hd with rfl | rfl
  · rw [clos0]; rfl
  · rw [clos1]; rfl
theorem clos_cl (d : Int) (b : List UInt8) : clos d (clL d ++ b) = true := by unfold clos Lib.hasPrefix clL; split <;> simp
theorem clL_cons (d : Int) : ∃ r, clL d = cl0 d :: r := by unfold clL cl0; split <;> exact ⟨_, rfl⟩

theorem back (d : Int) (hd : Dia d) (b : List UInt8) : ∀ l acc u, l.all okB = true → acc.length + l.length ≤ 1024 →
    rd d (body d l ++ clL d ++ b) false acc u = (acc ++ l, u + (body d l).length + (clL d).length, 0) := by
  intro l
  induction l with
  | nil =>
    intro acc u _ _
    obtain ⟨r, hr⟩ := clL_cons d
    have hc := clos_cl d b
    simp only [body, List.nil_append, List.length_nil, List.append_nil, Nat.add_zero]
    rw [hr] at hc ⊢
    rw [List.cons_append] at hc ⊢
    rw [rd, if_pos hc, hr]
  | cons c r ih =>
    intro acc u hok hl
    simp only [List.all_cons, Bool.and_eq_true] at hok
    simp only [List.length_cons] at hl
    have hn : acc.length ≠ 1024 := by omega
    have hih := ih (acc ++ [c]) (u + (if shield d c r then 2 else 1)) hok.2 (by simp; omega)
    simp only [body]
    cases hs : shield d c r with
    | true =>
      rw [hs] at hih
      simp only [if_true, List.cons_append, List.nil_append, List.append_assoc]
      rw [rd, if_neg (by rw [clos_92 d hd]; simp), if_pos (by rfl), rd, if_pos (shut_byte d hd c r hs), if_neg hn]
      simp only [if_true] at hih
      rw [← List.append_assoc, show u + 1 + 1 = u + 2 from rfl, hih]
      simp; omega
    | false =>
      rw [hs] at hih
      obtain ⟨h1, h2⟩ := open_byte d hd c r b hs
      simp only [Bool.false_eq_true, if_false, List.cons_append, List.nil_append]
      rw [rd, if_neg (by rw [h1]; simp), if_neg (by rw [h2]; simp), if_neg (by rw [hok.1]; simp), if_neg hn]
      simp only [Bool.false_eq_true, if_false] at hih
      rw [hih]
      simp; omega

theorem begs_op (d : Int) (l : List UInt8) : begs d (opL d ++ l) = true := by unfold begs Lib.hasPrefix opL; split <;> simp
theorem check_zero {l : List UInt8} (h : checkL l = 0) : l.length ≤ 1024 ∧ l.all okB = true := by
  unfold checkL at h
  split at h
  · omega
  · split at h
    · omega
    · rename_i h1 h2; exact ⟨by omega, by simpa using h2⟩
theorem read_form (d : Int) (hd : Dia d) (l b : List UInt8) (h : checkL l = 0) : readL d (form d l ++ b) = (l, (form d l).length, 0) := by
  obtain ⟨h1, h2⟩ := check_zero h
  unfold readL form
  rw [hd.b, List.append_assoc, List.append_assoc, begs_op]
  simp only [Bool.true_eq_false, if_false]
  rw [List.drop_left, ← List.append_assoc, back d hd b l [] _ h2 (by simpa using h1)]
  simp; omega
theorem beg_form (d : Int) (hd : Dia d) (l : List UInt8) : begL d (form d l) = true := by
  unfold begL form; rw [hd.b, List.append_assoc, begs_op]; rfl
/-- Forms of unlike texts: none is the beginning of another one. -/
theorem form_apart (d : Int) (hd : Dia d) (a b r : List UInt8) (ha : checkL a = 0) (hb : checkL b = 0) (h : form d b = form d a ++ r) : a = b := by
  have h1 := read_form d hd a r ha
  have h2 := read_form d hd b [] hb
  rw [List.append_nil, h, h1] at h2
  exact (Prod.mk.inj h2).1
theorem body_len (d : Int) : ∀ l, l.length ≤ (body d l).length ∧ (body d l).length ≤ 2 * l.length := by
  intro l
  induction l with
  | nil => simp [body]
  | cons c r ih => simp only [body, List.length_append, List.length_cons]; split <;> simp <;> omega
theorem form_len (d : Int) (hd : Dia d) (l : List UInt8) : l.length + 2 * (1 + d.toNat) ≤ (form d l).length ∧ (form d l).length ≤ 2 * l.length + 2 * (1 + d.toNat) := by
  have := body_len d l
  rcases hd with rfl | rfl <;> simp [form, opL, clL] <;> omega
theorem body_append (d : Int) (c : UInt8) (r : List UInt8) : body d (c :: r) = (if shield d c r then [92, c] else [c]) ++ body d r := rfl
end Go.Proofs.YtjdmaindoohmkaaDoor
