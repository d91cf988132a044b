/-
  Names in great letters, plainly.
-/
import Derived.Test.YtjdmaindoohmkaaDoorPPlc
import Derived.Test.YtjdmaindoohmkaaDoorPSd
namespace Go.Proofs.YtjdmaindoohmkaaDoor.P
open Go.RowKit

/-- Where each token comes from. -/
theorem lexN_from (s : ByteArray) : ∀ m k last acc t, t ∈ (lexN s m k last acc).toks → t ∈ acc ∨ ∃ j l, t = mkT s (fdAt s j) j l ∧ (fdAt s j).err = 0 := by
  intro m
  induction m with
  | zero => intro k last acc t h; simp [lexN] at h
  | succ m ih =>
    intro k last acc t h
    rw [lexN_succ] at h
    split at h
    · cases h
    · rename_i h1
      have h1 : (fdAt s (blEnd s k)).err = 0 := by omega
      split at h
      · rcases List.mem_append.1 h with h | h
        · exact .inl h
        · exact .inr ⟨_, _, by simpa using h, h1⟩
      · rcases ih _ _ _ t h with h | h
        · rcases List.mem_append.1 h with h | h
          · exact .inl h
          · exact .inr ⟨_, _, by simpa using h, h1⟩
        · exact .inr h
theorem lex_from (s : ByteArray) (t : Tk) (h : t ∈ (lexAll s).toks) : ∃ j l, t = mkT s (fdAt s j) j l ∧ (fdAt s j).err = 0 := by
  unfold lexAll at h
  split at h
  · cases h
  · rcases lexN_from s _ _ _ _ t h with h | h
    · cases h
    · exact h
/-- What a name is. -/
structure IsNm (nm : List UInt8) : Prop where
  all : ∀ c ∈ nm, isNam c = true
  hd : ∃ c r, nm = c :: r ∧ isLet c = true
  len : nm.length ≤ 32
theorem tok_name (l : List UInt8) (he : (tokL l).err = 0) (hk : (tokL l).kind = 1 ∨ (tokL l).kind = 2) : ∃ nm, IsNm nm ∧ tokL l = ⟨nameK (nm.map Lib.lowerB), nm.map Lib.lowerB, 0, nm.length, 0⟩ := by
  cases l with
  | nil => rw [tok_nil] at hk; rcases hk with h | h <;> cases h
  | cons c r =>
    rw [tokL_cons] at he hk ⊢
    split at he
    · rename_i h1
      rw [if_pos h1] at hk
      have hc : c = 123 := by simpa using h1
      subst hc
      have := note_use r he
      omega
    · rename_i h1
      rw [if_neg h1] at hk ⊢
      split at he
      · rename_i h2
        rw [if_pos h2] at hk
        unfold intL at hk he
        split at hk <;> rcases hk with h | h <;> cases h
      · rename_i h2
        rw [if_neg h2] at hk ⊢
        split at he
        · rename_i h3
          rw [if_pos h3]
          unfold nameL at he ⊢
          split at he
          · cases he
          · rename_i h4
            rw [if_neg h4]
            refine ⟨_, ⟨fun x hx => tw_mem isNam _ x hx, ?_, by omega⟩, rfl⟩
            rw [List.takeWhile_cons, if_pos (by unfold isNam; rw [h3]; rfl)]
            exact ⟨c, _, rfl, h3⟩
        · rename_i h3
          rw [if_neg h3] at hk
          exfalso
          split at hk
          · unfold quoteL at hk
            split at hk
            · rcases hk with h | h <;> cases h
            · split at hk <;> rcases hk with h | h <;> cases h
          · split at hk
            · unfold hashL at hk
              split at hk <;> rcases hk with h | h <;> cases h
            · unfold signL at hk
              split at hk <;> rcases hk with h | h <;> cases h
def upB (c : UInt8) : UInt8 := if (decide (97 ≤ c.toNat) && decide (c.toNat ≤ 122)) = true then c - 97 + 65 else c
theorem up_facts (x : UInt8) (h : isNam x = true) : Lib.lowerB (upB (Lib.lowerB x)) = Lib.lowerB x ∧ isNam (upB (Lib.lowerB x)) = true := by
  have := all8 (q := fun x => !isNam x || ((Lib.lowerB (upB (Lib.lowerB x)) == Lib.lowerB x) && isNam (upB (Lib.lowerB x)))) (by decide +kernel) x
  rw [h] at this
  simpa using this
theorem up_let (x : UInt8) (h : isLet x = true) : isLet (upB (Lib.lowerB x)) = true := by
  have := all8 (q := fun x => !isLet x || isLet (upB (Lib.lowerB x))) (by decide +kernel) x
  rw [h] at this
  simpa using this
theorem let_not (c : UInt8) (h : isLet c = true) : isBl c = false ∧ (c == 123) = false ∧ isDig c = false := by
  have := all8 (q := fun c => !isLet c || (!isBl c && !(c == 123) && !isDig c)) (by decide +kernel) c
  rw [h] at this
  simp at this
  simp [this]
theorem IsNm.up {nm : List UInt8} (h : IsNm nm) : IsNm ((nm.map Lib.lowerB).map upB) ∧ ((nm.map Lib.lowerB).map upB).map Lib.lowerB = nm.map Lib.lowerB := by
  refine ⟨⟨?_, ?_, by simp; exact h.len⟩, ?_⟩
  · intro c hc
    simp only [List.map_map, List.mem_map, Function.comp] at hc
    obtain ⟨x, hx, rfl⟩ := hc
    exact (up_facts x (h.all x hx)).2
  · obtain ⟨c, r, rfl, hl⟩ := h.hd
    exact ⟨_, _, rfl, up_let c hl⟩
  · rw [List.map_map, List.map_map]
    apply List.map_congr_left
    intro x hx
    exact (up_facts x (h.all x hx)).1
theorem tw_all (p : UInt8 → Bool) : ∀ l : List UInt8, (∀ c ∈ l, p c = true) → l.takeWhile p = l
  | [], _ => rfl
  | c :: r, h => by rw [List.takeWhile_cons, if_pos (h c (by simp)), tw_all p r fun x hx => h x (by simp [hx])]
/-- A name by itself. -/
theorem lex_name {nm : List UInt8} (h : IsNm nm) : ∃ t1 t2, lexAll ⟨nm.toArray⟩ = ⟨0, 0, [t1, t2]⟩ ∧ t1.kind = nameK (nm.map Lib.lowerB) ∧ t1.text = nm.map Lib.lowerB := by
  obtain ⟨c, r, hcr, hl⟩ := h.hd
  have hsz : (ByteArray.mk nm.toArray).size = nm.length := by have := len_size (ByteArray.mk nm.toArray); simpa using this.symm
  have hlen := h.len
  have hn : 1 ≤ nm.length := by rw [hcr]; simp
  obtain ⟨b1, b2, b3⟩ := let_not c hl
  have e0 : (ByteArray.mk nm.toArray).data.toList = nm := rfl
  have hb0 : blEnd ⟨nm.toArray⟩ 0 = 0 := by
    unfold blEnd
    rw [e0, List.drop_zero, hcr, List.takeWhile_cons, b1]; rfl
  have hf0 : fdAt ⟨nm.toArray⟩ 0 = ⟨nameK (nm.map Lib.lowerB), nm.map Lib.lowerB, 0, nm.length, 0⟩ := by
    unfold fdAt
    rw [e0, List.drop_zero, hcr, tokL_cons, b2, if_neg (by decide), b3, if_neg (by decide), if_pos hl, ← hcr, tw_all isNam nm h.all]
    unfold nameL
    rw [if_neg (by omega)]
  have hb1 : blEnd ⟨nm.toArray⟩ (0 + nm.length) = nm.length := by
    unfold blEnd
    rw [e0, Nat.zero_add, List.drop_length]; rfl
  have hf1 : fdAt ⟨nm.toArray⟩ nm.length = bad 0 := fd_end _ _ (by omega)
  have hk0 : nameK (nm.map Lib.lowerB) ≠ 0 := by unfold nameK; split <;> decide
  obtain ⟨m, hm⟩ : ∃ m, nm.length = m + 1 := ⟨nm.length - 1, by omega⟩
  refine ⟨mkT ⟨nm.toArray⟩ ⟨nameK (nm.map Lib.lowerB), nm.map Lib.lowerB, 0, nm.length, 0⟩ 0 (-1), mkT ⟨nm.toArray⟩ (bad 0) nm.length (lineOf ⟨nm.toArray⟩ (0 + nm.length)), ?_, rfl, rfl⟩
  unfold lexAll
  rw [if_neg (by omega), hsz, hm, lexN_succ, hb0, hf0, if_neg (by simp), if_neg hk0, ← hm, hm, lexN_succ, ← hm, hb1, hf1, if_neg (by decide), if_pos (by rfl)]
  rfl
end Go.Proofs.YtjdmaindoohmkaaDoor.P
