/-
  Tokens' own texts, with blanks between them, plainly.
-/
import Derived.Test.YtjdmaindoohmkaaDoorPJnp
namespace Go.Proofs.YtjdmaindoohmkaaDoor.P
open Go.RowKit

def charL (n : Nat) : List UInt8 := if n = 39 then [39, 39, 39, 39] else if (decide (32 ≤ n) && decide (n ≤ 126)) = true then [39, UInt8.ofNat n, 39] else 35 :: Lib.decDigits n
/-- A token's own text. -/
def textT (t : Tk) : List UInt8 :=
  if t.kind = 1 ∨ t.kind = 2 ∨ t.kind = 5 then t.text else if t.kind = 3 then Lib.decDigits t.n else if t.kind = 4 then charL t.n else if t.kind = 6 then form 0 t.text else []
theorem text_t {t : Tk} (h : t.kind = 1 ∨ t.kind = 2 ∨ t.kind = 5) : textT t = t.text := by unfold textT; rw [if_pos h]
theorem text_3 {t : Tk} (h : t.kind = 3) : textT t = Lib.decDigits t.n := by unfold textT; rw [if_neg (by omega), if_pos h]
theorem text_4 {t : Tk} (h : t.kind = 4) : textT t = charL t.n := by unfold textT; rw [if_neg (by omega), if_neg (by omega), if_pos h]
theorem text_6 {t : Tk} (h : t.kind = 6) : textT t = form 0 t.text := by unfold textT; rw [if_neg (by omega), if_neg (by omega), if_neg (by omega), if_pos h]
theorem text_0 {t : Tk} (h : t.kind = 0) : textT t = [] := by unfold textT; rw [if_neg (by omega), if_neg (by omega), if_neg (by omega), if_neg (by omega)]
/-- What a token may be. -/
def GoodT (t : Tk) : Prop :=
  (t.kind = 0 ∧ t.text = [] ∧ t.n = 0) ∨ ((t.kind = 1 ∨ t.kind = 2) ∧ t.n = 0 ∧ ∃ nm, IsNm nm ∧ t.text = nm.map Lib.lowerB ∧ t.kind = nameK t.text) ∨ (t.kind = 3 ∧ t.text = [] ∧ t.n ≤ maxInt) ∨ (t.kind = 4 ∧ t.text = [] ∧ t.n ≤ 255) ∨ (t.kind = 5 ∧ t.n = 0 ∧ t.text ∈ signs) ∨ (t.kind = 6 ∧ t.n = 0 ∧ checkL t.text = 0)
theorem dd_le : ∀ (k n : Nat), 1 ≤ k → n < 10 ^ k → (Lib.decDigits n).length ≤ k := by
  intro k
  induction k with
  | zero => intro n h; omega
  | succ k ih =>
    intro n _ hn
    by_cases h : n < 10
    · have : Lib.decDigits n = [UInt8.ofNat (48 + n)] := by unfold Lib.decDigits; rw [dif_pos h]
      rw [this]; simp
    · rw [dd_step h, List.length_append]
      have hk : 1 ≤ k := by
        cases k with
        | zero => simp at hn; omega
        | succ k => omega
      have := ih (n / 10) hk (by rw [Nat.pow_succ] at hn; omega)
      simp; omega
theorem val_lt (l : List UInt8) (h : ∀ c ∈ l, 48 ≤ c.toNat ∧ c.toNat ≤ 57) : valL l < 10 ^ l.length := by
  have go : ∀ (l : List UInt8) (a b : Nat), (∀ c ∈ l, 48 ≤ c.toNat ∧ c.toNat ≤ 57) → a < b → l.foldl (fun n c => n * 10 + (c.toNat - 48)) a < b * 10 ^ l.length := by
    intro l
    induction l with
    | nil => intro a b _ h; simpa using h
    | cons c r ih =>
      intro a b hc hab
      have h1 := hc c (by simp)
      have := ih (a * 10 + (c.toNat - 48)) (b * 10) (fun x hx => hc x (by simp [hx])) (by omega)
      rw [List.foldl_cons, List.length_cons, Nat.pow_succ]
      rw [Nat.mul_assoc, Nat.mul_comm 10] at this
      exact this
  have := go l 0 1 h (by omega)
  simpa [valL] using this
theorem rd_ok : ∀ l sh acc u, acc.all okB = true → acc.length ≤ 1024 → (rd 0 l sh acc u).2.2 = 0 → (rd 0 l sh acc u).1.all okB = true ∧ (rd 0 l sh acc u).1.length ≤ 1024 := by
  intro l
  induction l with
  | nil => intro sh acc u _ _ h; cases sh <;> simp [rd] at h
  | cons c r ih =>
    intro sh acc u ha hl h
    have hsn : ∀ c, okB c = true → (acc ++ [c]).all okB = true := fun c hc => by rw [List.all_append, ha]; simp [hc]
    cases sh with
    | true =>
      simp only [rd] at h ⊢
      split at h
      · rename_i h1
        rw [if_pos h1]
        split at h
        · simp at h
        · rename_i h2
          rw [if_neg h2]
          refine ih _ _ _ (hsn c ?_) (by simp; omega) h
          simp [cl0] at h1
          rcases h1 with rfl | rfl <;> decide
      · simp at h
    | false =>
      simp only [rd] at h ⊢
      split at h
      · rename_i h1; rw [if_pos h1]; exact ⟨ha, hl⟩
      · rename_i h1
        rw [if_neg h1]
        split at h
        · rename_i h2; rw [if_pos h2]; exact ih _ _ _ ha hl h
        · rename_i h2
          rw [if_neg h2]
          split at h
          · simp at h
          · rename_i h3
            rw [if_neg h3]
            split at h
            · simp at h
            · rename_i h4
              rw [if_neg h4]
              exact ih _ _ _ (hsn c (by simpa using h3)) (by simp; omega) h
theorem check_of {l : List UInt8} (h1 : l.all okB = true) (h2 : l.length ≤ 1024) : checkL l = 0 := by
  unfold checkL; rw [if_neg (by omega), if_neg (by rw [h1]; decide)]
/-- A token that was read is one that may be; its own text is no more than twice as long as what was read. -/
theorem tok_good (l : List UInt8) (he : (tokL l).err = 0) : GoodT (bareF (tokL l)) ∧ (textT (bareF (tokL l))).length ≤ 2 * (tokL l).used := by
  by_cases hnm : (tokL l).kind = 1 ∨ (tokL l).kind = 2
  · obtain ⟨nm, h1, h2⟩ := tok_name l he hnm
    rw [h2] at hnm ⊢
    refine ⟨.inr (.inl ⟨hnm, rfl, nm, h1, rfl, rfl⟩), ?_⟩
    rw [text_t (by rcases hnm with h | h; exact .inl h; exact .inr (.inl h))]
    show (nm.map Lib.lowerB).length ≤ 2 * nm.length
    simp; omega
  · cases l with
    | nil => exact ⟨.inl ⟨rfl, rfl, rfl⟩, by decide⟩
    | cons c r =>
      rw [tokL_cons] at he hnm ⊢
      split
      · rename_i h1
        rw [if_pos h1] at he
        have hc : c = 123 := by simpa using h1
        subst hc
        have hu := note_use r he
        unfold noteL at he hu ⊢
        rw [read_cons] at he hu ⊢
        split at he
        · rename_i h2
          rw [if_pos h2] at hu ⊢
          have ok := rd_ok r false [] 1 rfl (by decide) h2
          have hck := check_of ok.1 ok.2
          refine ⟨.inr (.inr (.inr (.inr (.inr ⟨rfl, rfl, hck⟩)))), ?_⟩
          have hf := form_len 0 (.inl rfl) (rd 0 r false [] 1).1
          rw [text_6 rfl]
          show (form 0 (rd 0 r false [] 1).1).length ≤ 2 * (rd 0 r false [] 1).2.1
          simp at hf hu
          omega
        · rename_i h2; exact absurd he h2
      · rename_i h1
        rw [if_neg h1] at he hnm
        split
        · rename_i h2
          rw [if_pos h2] at he
          have hp := tw_pos (r := r) h2
          have hv := val_lt _ (dig_all (c :: r))
          unfold intL at he ⊢
          split at he
          · cases he
          · rename_i h3
            rw [if_neg h3]
            refine ⟨.inr (.inr (.inl ⟨rfl, rfl, by show valL _ ≤ maxInt; omega⟩)), ?_⟩
            have := dd_le _ _ hp hv
            rw [text_3 rfl]
            show (Lib.decDigits (valL _)).length ≤ 2 * (List.takeWhile isDig (c :: r)).length
            omega
        · rename_i h2
          rw [if_neg h2] at he hnm
          split
          · rename_i h3
            rw [if_pos h3] at he hnm
            unfold nameL at he hnm
            split at he
            · cases he
            · rename_i h4
              rw [if_neg h4] at hnm
              exfalso
              apply hnm
              show nameK _ = 1 ∨ nameK _ = 2
              unfold nameK
              split
              · exact .inr rfl
              · exact .inl rfl
          · rename_i h3
            rw [if_neg h3] at he hnm
            split
            · rename_i h4
              rw [if_pos h4] at he
              unfold quoteL at he ⊢
              split
              · exact ⟨.inr (.inr (.inr (.inl ⟨rfl, rfl, by decide⟩))), by decide⟩
              · rename_i h5
                rw [if_neg h5] at he
                split at he
                · rename_i h6
                  rw [if_pos h6]
                  generalize (c :: r).getD 1 0 = b at h6 ⊢
                  have hlt := UInt8.toNat_lt b
                  refine ⟨.inr (.inr (.inr (.inl ⟨rfl, rfl, by show UInt8.toNat _ ≤ 255; omega⟩))), ?_⟩
                  rw [Bool.and_eq_true] at h6
                  have hvis := h6.1
                  unfold visB at hvis
                  simp at hvis
                  rw [text_4 rfl]
                  show (charL b.toNat).length ≤ 2 * 3
                  unfold charL
                  split
                  · simp
                  · rw [decide_eq_true hvis.1.1, decide_eq_true hvis.1.2]; simp
                · cases he
            · rename_i h4
              rw [if_neg h4] at he
              split
              · rename_i h5
                rw [if_pos h5] at he
                have hv := val_lt _ (dig_all r)
                unfold hashL at he ⊢
                split at he
                · cases he
                · rename_i h6
                  rw [if_neg h6]
                  simp at h6
                  refine ⟨.inr (.inr (.inr (.inl ⟨rfl, rfl, by show valL _ ≤ 255; omega⟩))), ?_⟩
                  have hl0 : 1 ≤ (r.takeWhile isDig).length := by
                    rcases Nat.eq_zero_or_pos (r.takeWhile isDig).length with h | h
                    · exact absurd (List.eq_nil_of_length_eq_zero h) h6.1.1
                    · exact h
                  have := dd_le _ _ hl0 hv
                  rw [text_4 rfl]
                  show (charL (valL (r.takeWhile isDig))).length ≤ 2 * (1 + (r.takeWhile isDig).length)
                  unfold charL
                  split
                  · simp; omega
                  · split
                    · simp; omega
                    · simp; omega
              · rename_i h5
                rw [if_neg h5] at he
                unfold signL at he ⊢
                split
                · rename_i g hg
                  refine ⟨.inr (.inr (.inr (.inr (.inl ⟨rfl, rfl, List.mem_of_find?_eq_some hg⟩)))), ?_⟩
                  rw [text_t (.inr (.inr rfl))]
                  show g.length ≤ 2 * g.length
                  omega
                · rename_i hg; rw [hg] at he; cases he
end Go.Proofs.YtjdmaindoohmkaaDoor.P
