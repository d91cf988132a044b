/-
  Tokens' own texts, with blanks between them, plainly.
-/
import Derived.Test.YtjdmaindoohmkaaDoorJnp
namespace Go.Proofs.YtjdmaindoohmkaaDoor
open Go.RowKit

/-- A small digit of base 16. -/
def hexD (k : Nat) : UInt8 := if k < 10 then UInt8.ofNat (48 + k) else UInt8.ofNat (87 + k)
def charL (n : Nat) : List UInt8 := if n = 39 ∨ n = 92 then [39, 92, UInt8.ofNat n, 39] else if (decide (32 ≤ n) && decide (n ≤ 126)) = true then [39, UInt8.ofNat n, 39] else [39, 92, 120, hexD (n / 16), hexD (n % 16), 39]
theorem char_len (n : Nat) : (charL n).length ≤ 6 := by
  unfold charL
  split
  · simp
  · split <;> simp
theorem tw_all (p : UInt8 → Bool) : ∀ l : List UInt8, (∀ c ∈ l, p c = true) → l.takeWhile p = l
  | [], _ => rfl
  | c :: r, h => by rw [List.takeWhile_cons, if_pos (h c (by simp)), tw_all p r fun x hx => h x (by simp [hx])]
theorem let_not (c : UInt8) (h : isLet c = true) : isBl c = false ∧ (c == 47) = false ∧ isDig c = false ∧ isNam c = true := by
  have := all8 (q := fun c => !isLet c || (!isBl c && !(c == 47) && !isDig c && isNam c)) (by decide +kernel) c
  rw [h] at this
  simp at this
  simp [this]
/-- What a name is. -/
structure IsNm (nm : List UInt8) : Prop where
  all : nmL nm = nm
  hd : ∃ c r, nm = c :: r ∧ isLet c = true
  len : longP 0 nm = false
theorem more_iff (l : List UInt8) (h : more l = true) : ∃ c r, l = 36 :: c :: r ∧ isLet c = true := by
  unfold more at h
  split at h
  · rename_i c r; exact ⟨c, r, rfl, h⟩
  · cases h
theorem nm_idem (l : List UInt8) : nmL (nmL l) = nmL l := by
  induction l with
  | nil => rfl
  | cons c r ih =>
    rw [nmL]
    split
    · rename_i h; rw [nmL, if_pos h, ih]
    · rename_i h
      split
      · rename_i h2
        obtain ⟨e, q, hq, he⟩ := more_iff _ h2
        obtain ⟨h3, h4⟩ := List.cons.inj hq
        subst h3 h4
        have hen := (let_not e he).2.2.2
        have e1 : nmL (e :: q) = e :: nmL q := by rw [nmL, if_pos hen]
        rw [nmL, if_neg h, ih, if_pos (by rw [e1]; exact he)]
      · rfl
theorem tok_name (l : List UInt8) (he : (tokL l).err = 0) (hk : (tokL l).kind = 1 ∨ (tokL l).kind = 2) : ∃ nm, IsNm nm ∧ tokL l = ⟨nameK nm, nm, 0, nm.length, 0⟩ := by
  cases l with
  | nil => rw [tok_nil] at hk; rcases hk with h | h <;> cases h
  | cons c r =>
    rw [tokL_cons] at he hk ⊢
    split at he
    · rename_i h1
      rw [if_pos h1] at hk
      obtain ⟨r2, hr⟩ := beg_two h1
      rw [hr] at he hk
      have := note_use r2 he
      omega
    · rename_i h1
      rw [if_neg h1] at hk ⊢
      split at he
      · rename_i h2
        rw [if_pos h2] at hk
        unfold intL at hk he
        split at hk <;> rcases hk with h | h <;> cases h
      · rename_i h2
        rw [if_neg h2] at hk ⊢
        split at he
        · rename_i h3
          rw [if_pos h3]
          unfold nameL at he ⊢
          split at he
          · cases he
          · rename_i h4
            rw [if_neg h4]
            refine ⟨_, ⟨nm_idem _, ?_, by simpa using h4⟩, rfl⟩
            rw [nmL, if_pos (let_not c h3).2.2.2]
            exact ⟨c, _, rfl, h3⟩
        · rename_i h3
          rw [if_neg h3] at hk
          exfalso
          split at hk
          · rename_i h4
            rw [if_pos h4] at he
            have := quote_use _ he
            omega
          · unfold signL at hk
            split at hk <;> rcases hk with h | h <;> cases h
/-- A token's own text. -/
def textT (t : Tk) : List UInt8 :=
  if t.kind = 1 ∨ t.kind = 2 ∨ t.kind = 5 then t.text else if t.kind = 3 then Lib.decDigits t.n else if t.kind = 4 then charL t.n else if t.kind = 6 then form 1 t.text else []
theorem text_t {t : Tk} (h : t.kind = 1 ∨ t.kind = 2 ∨ t.kind = 5) : textT t = t.text := by unfold textT; rw [if_pos h]
theorem text_3 {t : Tk} (h : t.kind = 3) : textT t = Lib.decDigits t.n := by unfold textT; rw [if_neg (by omega), if_pos h]
theorem text_4 {t : Tk} (h : t.kind = 4) : textT t = charL t.n := by unfold textT; rw [if_neg (by omega), if_neg (by omega), if_pos h]
theorem text_6 {t : Tk} (h : t.kind = 6) : textT t = form 1 t.text := by unfold textT; rw [if_neg (by omega), if_neg (by omega), if_neg (by omega), if_pos h]
theorem text_0 {t : Tk} (h : t.kind = 0) : textT t = [] := by unfold textT; rw [if_neg (by omega), if_neg (by omega), if_neg (by omega), if_neg (by omega)]
/-- What a token may be. -/
def GoodT (t : Tk) : Prop :=
  (t.kind = 0 ∧ t.text = [] ∧ t.n = 0) ∨ ((t.kind = 1 ∨ t.kind = 2) ∧ t.n = 0 ∧ IsNm t.text ∧ t.kind = nameK t.text) ∨ (t.kind = 3 ∧ t.text = [] ∧ t.n ≤ maxInt) ∨ (t.kind = 4 ∧ t.text = [] ∧ t.n ≤ 255) ∨ (t.kind = 5 ∧ t.n = 0 ∧ t.text ∈ signs) ∨ (t.kind = 6 ∧ t.n = 0 ∧ checkL t.text = 0)
theorem dd_le : ∀ (k n : Nat), 1 ≤ k → n < 10 ^ k → (Lib.decDigits n).length ≤ k := by
  intro k
  induction k with
  | zero => intro n h; omega
  | succ k ih =>
    intro n _ hn
    by_cases h : n < 10
    · have : Lib.decDigits n = [UInt8.ofNat (48 + n)] := by unfold Lib.decDigits; rw [dif_pos h]
      rw [this]; simp
    · rw [dd_step h, List.length_append]
      have hk : 1 ≤ k := by
        cases k with
        | zero => simp at hn; omega
        | succ k => omega
      have := ih (n / 10) hk (by rw [Nat.pow_succ] at hn; omega)
      simp; omega
theorem val_lt (l : List UInt8) (h : ∀ c ∈ l, 48 ≤ c.toNat ∧ c.toNat ≤ 57) : valL l < 10 ^ l.length := by
  have go : ∀ (l : List UInt8) (a b : Nat), (∀ c ∈ l, 48 ≤ c.toNat ∧ c.toNat ≤ 57) → a < b → l.foldl (fun n c => n * 10 + (c.toNat - 48)) a < b * 10 ^ l.length := by
    intro l
    induction l with
    | nil => intro a b _ h; simpa using h
    | cons c r ih =>
      intro a b hc hab
      have h1 := hc c (by simp)
      have := ih (a * 10 + (c.toNat - 48)) (b * 10) (fun x hx => hc x (by simp [hx])) (by omega)
      rw [List.foldl_cons, List.length_cons, Nat.pow_succ]
      rw [Nat.mul_assoc, Nat.mul_comm 10] at this
      exact this
  have := go l 0 1 h (by omega)
  simpa [valL] using this
theorem rd_ok : ∀ l sh acc u, acc.all okB = true → acc.length ≤ 1024 → (rd 1 l sh acc u).2.2 = 0 → (rd 1 l sh acc u).1.all okB = true ∧ (rd 1 l sh acc u).1.length ≤ 1024 := by
  intro l
  induction l with
  | nil => intro sh acc u _ _ h; cases sh <;> simp [rd] at h
  | cons c r ih =>
    intro sh acc u ha hl h
    have hsn : ∀ c, okB c = true → (acc ++ [c]).all okB = true := fun c hc => by rw [List.all_append, ha]; simp [hc]
    cases sh with
    | true =>
      simp only [rd] at h ⊢
      split at h
      · rename_i h1
        rw [if_pos h1]
        split at h
        · simp at h
        · rename_i h2
          rw [if_neg h2]
          refine ih _ _ _ (hsn c ?_) (by simp; omega) h
          simp [cl0] at h1
          rcases h1 with rfl | rfl <;> decide
      · simp at h
    | false =>
      simp only [rd] at h ⊢
      split at h
      · rename_i h1; rw [if_pos h1]; exact ⟨ha, hl⟩
      · rename_i h1
        rw [if_neg h1]
        split at h
        · rename_i h2; rw [if_pos h2]; exact ih _ _ _ ha hl h
        · rename_i h2
          rw [if_neg h2]
          split at h
          · simp at h
          · rename_i h3
            rw [if_neg h3]
            split at h
            · simp at h
            · rename_i h4
              rw [if_neg h4]
              exact ih _ _ _ (hsn c (by simpa using h3)) (by simp; omega) h
theorem check_of {l : List UInt8} (h1 : l.all okB = true) (h2 : l.length ≤ 1024) : checkL l = 0 := by
  unfold checkL; rw [if_neg (by omega), if_neg (by rw [h1]; decide)]
theorem hex_le (a : UInt8) (h : isHex a = true) : hexV a < 16 := by
  have := all8 (q := fun a => !isHex a || decide (hexV a < 16)) (by decide +kernel) a
  rw [h] at this
  simpa using this
theorem quote_good (l : List UInt8) (he : (quoteL l).err = 0) : (quoteL l).kind = 4 ∧ (quoteL l).text = [] ∧ (quoteL l).n ≤ 255 ∧ 3 ≤ (quoteL l).used := by
  unfold quoteL at he ⊢
  split
  · exact ⟨rfl, rfl, by decide, by decide⟩
  · rename_i h5
    rw [if_neg h5] at he
    split
    · exact ⟨rfl, rfl, by decide, by decide⟩
    · rename_i h6
      rw [if_neg h6] at he
      split
      · rename_i h7
        rw [if_pos h7] at he
        obtain ⟨e, hl⟩ := hexL_use l he
        unfold hexL at he
        split at he
        · rename_i h8
          rw [Bool.and_eq_true, Bool.and_eq_true] at h8
          have a1 := hex_le _ h8.1.1
          have a2 := hex_le _ h8.1.2
          rw [e]
          refine ⟨rfl, rfl, ?_, by show 3 ≤ 6; decide⟩
          show hexV _ * 16 + hexV _ ≤ 255
          omega
        · cases he
      · rename_i h7
        rw [if_neg h7] at he
        obtain ⟨e, hl⟩ := quote1_use l he
        rw [e]
        have := UInt8.toNat_lt (l.getD 1 0)
        refine ⟨rfl, rfl, ?_, by show 3 ≤ 3; decide⟩
        show UInt8.toNat _ ≤ 255
        omega
/-- A token that was read is one that may be; its own text is no more than twice as long as what was read. -/
theorem tok_good (l : List UInt8) (he : (tokL l).err = 0) : GoodT (bareF (tokL l)) ∧ (textT (bareF (tokL l))).length ≤ 2 * (tokL l).used := by
  by_cases hnm : (tokL l).kind = 1 ∨ (tokL l).kind = 2
  · obtain ⟨nm, h1, h2⟩ := tok_name l he hnm
    rw [h2] at hnm ⊢
    refine ⟨.inr (.inl ⟨hnm, rfl, h1, rfl⟩), ?_⟩
    rw [text_t (by rcases hnm with h | h; exact .inl h; exact .inr (.inl h))]
    show nm.length ≤ 2 * nm.length
    omega
  · cases l with
    | nil => exact ⟨.inl ⟨rfl, rfl, rfl⟩, by decide⟩
    | cons c r =>
      rw [tokL_cons] at he hnm ⊢
      split
      · rename_i h1
        rw [if_pos h1] at he
        obtain ⟨r2, hr⟩ := beg_two h1
        rw [hr] at he ⊢
        have hu := note_use r2 he
        unfold noteL at he hu ⊢
        rw [read_cons] at he hu ⊢
        split at he
        · rename_i h2
          rw [if_pos h2] at hu ⊢
          have ok := rd_ok r2 false [] 2 rfl (by decide) h2
          have hck := check_of ok.1 ok.2
          refine ⟨.inr (.inr (.inr (.inr (.inr ⟨rfl, rfl, hck⟩)))), ?_⟩
          have hf := form_len 1 (.inr rfl) (rd 1 r2 false [] 2).1
          rw [text_6 rfl]
          show (form 1 (rd 1 r2 false [] 2).1).length ≤ 2 * (rd 1 r2 false [] 2).2.1
          simp at hf hu
          omega
        · rename_i h2; exact absurd he h2
      · rename_i h1
        rw [if_neg h1] at he hnm
        split
        · rename_i h2
          rw [if_pos h2] at he
          have hp := tw_pos (r := r) h2
          have hv := val_lt _ (dig_all (c :: r))
          unfold intL at he ⊢
          split at he
          · cases he
          · rename_i h3
            rw [if_neg h3]
            refine ⟨.inr (.inr (.inl ⟨rfl, rfl, by show valL _ ≤ maxInt; omega⟩)), ?_⟩
            have := dd_le _ _ hp hv
            rw [text_3 rfl]
            show (Lib.decDigits (valL _)).length ≤ 2 * (List.takeWhile isDig (c :: r)).length
            omega
        · rename_i h2
          rw [if_neg h2] at he hnm
          split
          · rename_i h3
            rw [if_pos h3] at he hnm
            unfold nameL at he hnm
            split at he
            · cases he
            · rename_i h4
              rw [if_neg h4] at hnm
              exfalso
              apply hnm
              show nameK _ = 1 ∨ nameK _ = 2
              unfold nameK
              split
              · exact .inr rfl
              · exact .inl rfl
          · rename_i h3
            rw [if_neg h3] at he hnm
            split
            · rename_i h4
              rw [if_pos h4] at he
              obtain ⟨g1, g2, g3, g4⟩ := quote_good _ he
              refine ⟨.inr (.inr (.inr (.inl ⟨g1, g2, g3⟩))), ?_⟩
              rw [text_4 g1]
              have := char_len (bareF (quoteL (c :: r))).n
              omega
            · rename_i h4
              rw [if_neg h4] at he
              unfold signL at he ⊢
              split
              · rename_i g hg
                refine ⟨.inr (.inr (.inr (.inr (.inl ⟨rfl, rfl, List.mem_of_find?_eq_some hg⟩)))), ?_⟩
                rw [text_t (.inr (.inr rfl))]
                show g.length ≤ 2 * g.length
                omega
              · rename_i hg; rw [hg] at he; cases he
end Go.Proofs.YtjdmaindoohmkaaDoor
