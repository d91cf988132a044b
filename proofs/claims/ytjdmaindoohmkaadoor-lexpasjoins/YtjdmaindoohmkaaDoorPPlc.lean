/-
  Where tokens stand, plainly.
-/
import Derived.Test.YtjdmaindoohmkaaDoorPLx
namespace Go.Proofs.YtjdmaindoohmkaaDoor.P
open Go.RowKit

theorem line_step (s : ByteArray) (k : Nat) : lineOf s k ≤ lineOf s (k + 1) := by
  by_cases h : k < s.size
  · by_cases hc : (bt s k).toNat = 10
    · rw [line_nl s k h hc]; omega
    · rw [line_no s k h hc]; omega
  · unfold lineOf
    rw [List.take_of_length_le (by rw [len_size]; omega), List.take_of_length_le (by rw [len_size]; omega)]
    omega
theorem line_mono (s : ByteArray) (a b : Nat) (h : a ≤ b) : lineOf s a ≤ lineOf s b := by
  induction b with
  | zero => obtain rfl : a = 0 := by omega
            exact Nat.le_refl _
  | succ b ih =>
    by_cases e : a = b + 1
    · rw [e]; exact Nat.le_refl _
    · exact Nat.le_trans (ih (by omega)) (line_step s b)
/-- Tokens stand where they are told to, one behind the other. -/
def PlOk (s : ByteArray) (ts : List Tk) : Prop :=
  ∀ i t, ts[i]? = some t → (t.line = lineOf s t.pos ∧ t.col = colOf s t.pos ∧ t.pos ≤ s.size) ∧ (i = 0 → t.same = false) ∧ ∀ u, 1 ≤ i → ts[i - 1]? = some u → u.pos < t.pos ∧ u.line ≤ t.line
theorem PlOk.nil (s : ByteArray) : PlOk s [] := fun i t h => by simp at h
theorem PlOk.snoc {s : ByteArray} {ts : List Tk} {t : Tk} (h : PlOk s ts) (h1 : t.line = lineOf s t.pos ∧ t.col = colOf s t.pos ∧ t.pos ≤ s.size) (h2 : ts = [] → t.same = false) (h3 : ∀ u ∈ ts, u.pos < t.pos) : PlOk s (ts ++ [t]) := by
  intro i x hx
  by_cases hi : i < ts.length
  · rw [List.getElem?_append_left hi] at hx
    have := h i x hx
    refine ⟨this.1, this.2.1, fun u h1i hu => ?_⟩
    rw [List.getElem?_append_left (by omega)] at hu
    exact this.2.2 u h1i hu
  · rw [List.getElem?_append_right (by omega)] at hx
    have hi0 : i - ts.length = 0 := by
      have := (List.getElem?_eq_some_iff.1 hx).1
      simp at this; omega
    rw [hi0] at hx
    obtain rfl : t = x := by simpa using hx
    refine ⟨h1, fun e => h2 (List.eq_nil_of_length_eq_zero (by omega)), fun u h1i hu => ?_⟩
    rw [List.getElem?_append_left (by omega)] at hu
    have hm := List.mem_of_getElem? hu
    have hp := h3 u hm
    obtain ⟨j, hj⟩ := List.getElem?_of_mem hm
    have hul := (h j u hj).1.1
    refine ⟨hp, ?_⟩
    rw [hul, h1.1]
    exact line_mono s _ _ (by omega)
theorem lexN_places (s : ByteArray) : ∀ m k last acc, s.size - k < m → k ≤ s.size → PlOk s acc → (∀ t ∈ acc, t.pos < k) → (acc = [] → last = -1) →
    ((lexN s m k last acc).code ≠ 0 → (lexN s m k last acc).toks = [] ∧ (lexN s m k last acc).pos ≤ s.size) ∧
    ((lexN s m k last acc).code = 0 → PlOk s (lexN s m k last acc).toks ∧ ∃ l e, (lexN s m k last acc).toks = l ++ [e] ∧ e.kind = 0 ∧ e.pos = s.size) := by
  intro m
  induction m with
  | zero => intro k last acc h; omega
  | succ m ih =>
    intro k last acc hm hk hp hlt hl
    have hb := blEnd_bd s k hk
    rw [lexN_succ]
    generalize hj : blEnd s k = j at hb ⊢
    generalize hf : fdAt s j = f
    have hu := fd_use s j
    have he := fd_end s j
    rw [hf] at hu he
    split
    · rename_i h1
      exact ⟨fun _ => ⟨rfl, by show j ≤ s.size; omega⟩, fun h => absurd h h1⟩
    · rename_i h1
      have h1 : f.err = 0 := by omega
      have hsn : PlOk s (acc ++ [mkT s f j last]) := by
        refine hp.snoc ⟨rfl, rfl, by show j ≤ s.size; omega⟩ (fun e => ?_) (fun u hu => by have := hlt u hu; show u.pos < j; omega)
        have := hl e
        show decide ((lineOf s j : Int) = last) = false
        rw [this]
        simp
      split
      · rename_i h0
        refine ⟨fun h => absurd rfl h, fun _ => ⟨hsn, acc, _, rfl, h0, ?_⟩⟩
        show j = s.size
        rcases Nat.lt_or_ge j s.size with g | g
        · have := (hu g h1).2.2; omega
        · omega
      · rename_i h0
        have hjs : j < s.size := by
          rcases Nat.lt_or_ge j s.size with g | g
          · exact g
          · have := he (by omega); rw [this] at h0; exact absurd rfl h0
        have h2 := hu hjs h1
        refine ih _ _ _ (by omega) (by omega) hsn (fun t ht => ?_) (fun e => by simp at e)
        rcases List.mem_append.1 ht with h | h
        · have := hlt t h; omega
        · obtain rfl : t = mkT s f j last := by simpa using h
          show j < _; omega
theorem lex_places (s : ByteArray) : ((lexAll s).code ≠ 0 → (lexAll s).toks = [] ∧ (lexAll s).pos ≤ s.size) ∧
    ((lexAll s).code = 0 → PlOk s (lexAll s).toks ∧ ∃ l e, (lexAll s).toks = l ++ [e] ∧ e.kind = 0 ∧ e.pos = s.size) := by
  unfold lexAll
  split
  · exact ⟨fun _ => ⟨rfl, Nat.zero_le _⟩, fun h => by cases h⟩
  · exact lexN_places s (s.size + 1) 0 (-1) [] (by omega) (Nat.zero_le _) (PlOk.nil s) (fun t h => by cases h) (fun _ => rfl)
/-- No more tokens than bytes, and one. -/
theorem lexN_len (s : ByteArray) : ∀ m k last acc, s.size - k < m → k ≤ s.size → acc.length ≤ k → (lexN s m k last acc).toks.length ≤ s.size + 1 := by
  intro m
  induction m with
  | zero => intro k last acc h; omega
  | succ m ih =>
    intro k last acc hm hk hl
    have hb := blEnd_bd s k hk
    rw [lexN_succ]
    generalize hj : blEnd s k = j at hb ⊢
    generalize hf : fdAt s j = f
    have hu := fd_use s j
    have he := fd_end s j
    rw [hf] at hu he
    split
    · simp
    · rename_i h1
      split
      · simp; omega
      · rename_i h0
        have hjs : j < s.size := by
          rcases Nat.lt_or_ge j s.size with g | g
          · exact g
          · have := he (by omega); rw [this] at h0; exact absurd rfl h0
        have h2 := hu hjs (by omega)
        exact ih _ _ _ (by omega) (by omega) (by simp; omega)
theorem lex_len (s : ByteArray) : (lexAll s).toks.length ≤ s.size + 1 := by
  unfold lexAll
  split
  · simp
  · exact lexN_len s (s.size + 1) 0 (-1) [] (by omega) (Nat.zero_le _) (by simp)
end Go.Proofs.YtjdmaindoohmkaaDoor.P
