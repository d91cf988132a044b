/-
  Tokens without their places: a text behind a text.
-/
import Derived.Test.YtjdmaindoohmkaaDoorPGrt
namespace Go.Proofs.YtjdmaindoohmkaaDoor.P
open Go.RowKit

def bareF (f : Fd) : Tk := ⟨f.kind, f.text, f.n, false, 0, 0, 0⟩
theorem bare_mk (s : ByteArray) (f : Fd) (k : Nat) (last : Int) : bareT (mkT s f k last) = bareF f := rfl
/-- The tokens of what is left, without their places. -/
def bl : Nat → List UInt8 → Nat → Res
  | 0, _, _ => ⟨0, 0, []⟩
  | m + 1, l, p =>
    if (tokL (l.dropWhile isBl)).err ≠ 0 then ⟨(tokL (l.dropWhile isBl)).err, p + (l.takeWhile isBl).length, []⟩
    else if (tokL (l.dropWhile isBl)).kind = 0 then ⟨0, 0, [bareF (tokL (l.dropWhile isBl))]⟩
    else
      let r := bl m ((l.dropWhile isBl).drop (tokL (l.dropWhile isBl)).used) (p + (l.takeWhile isBl).length + (tokL (l.dropWhile isBl)).used)
      if r.code ≠ 0 then ⟨r.code, r.pos, []⟩ else ⟨0, 0, bareF (tokL (l.dropWhile isBl)) :: r.toks⟩
theorem bl_err {m p : Nat} {l : List UInt8} (h : (tokL (l.dropWhile isBl)).err ≠ 0) : bl (m + 1) l p = ⟨(tokL (l.dropWhile isBl)).err, p + (l.takeWhile isBl).length, []⟩ := by rw [bl, if_pos h]
theorem bl_end {m p : Nat} {l : List UInt8} (h : (tokL (l.dropWhile isBl)).err = 0) (h0 : (tokL (l.dropWhile isBl)).kind = 0) : bl (m + 1) l p = ⟨0, 0, [bareF (tokL (l.dropWhile isBl))]⟩ := by rw [bl, if_neg (by omega), if_pos h0]
theorem bl_bad {m p : Nat} {l : List UInt8} (h : (tokL (l.dropWhile isBl)).err = 0) (h0 : (tokL (l.dropWhile isBl)).kind ≠ 0) (hr : (bl m ((l.dropWhile isBl).drop (tokL (l.dropWhile isBl)).used) (p + (l.takeWhile isBl).length + (tokL (l.dropWhile isBl)).used)).code ≠ 0) :
    bl (m + 1) l p = ⟨(bl m ((l.dropWhile isBl).drop (tokL (l.dropWhile isBl)).used) (p + (l.takeWhile isBl).length + (tokL (l.dropWhile isBl)).used)).code, (bl m ((l.dropWhile isBl).drop (tokL (l.dropWhile isBl)).used) (p + (l.takeWhile isBl).length + (tokL (l.dropWhile isBl)).used)).pos, []⟩ := by
  rw [bl, if_neg (by omega), if_neg h0]; simp only []; rw [if_pos hr]
theorem bl_tok {m p : Nat} {l : List UInt8} (h : (tokL (l.dropWhile isBl)).err = 0) (h0 : (tokL (l.dropWhile isBl)).kind ≠ 0) (hr : (bl m ((l.dropWhile isBl).drop (tokL (l.dropWhile isBl)).used) (p + (l.takeWhile isBl).length + (tokL (l.dropWhile isBl)).used)).code = 0) :
    bl (m + 1) l p = ⟨0, 0, bareF (tokL (l.dropWhile isBl)) :: (bl m ((l.dropWhile isBl).drop (tokL (l.dropWhile isBl)).used) (p + (l.takeWhile isBl).length + (tokL (l.dropWhile isBl)).used)).toks⟩ := by
  rw [bl, if_neg (by omega), if_neg h0]; simp only []; rw [if_neg (by omega)]
theorem dw_drop (p : UInt8 → Bool) : ∀ l : List UInt8, l.dropWhile p = l.drop (l.takeWhile p).length
  | [] => rfl
  | c :: r => by
    rw [List.dropWhile_cons, List.takeWhile_cons]
    split
    · rw [List.length_cons, List.drop_succ_cons, dw_drop p r]
    · rfl
theorem bl_pos0 (m : Nat) (l : List UInt8) (p : Nat) (h : (bl m l p).code = 0) : (bl m l p).pos = 0 := by
  cases m with
  | zero => rfl
  | succ m =>
    by_cases h1 : (tokL (l.dropWhile isBl)).err = 0
    · by_cases h0 : (tokL (l.dropWhile isBl)).kind = 0
      · rw [bl_end h1 h0]
      · by_cases hr : (bl m ((l.dropWhile isBl).drop (tokL (l.dropWhile isBl)).used) (p + (l.takeWhile isBl).length + (tokL (l.dropWhile isBl)).used)).code = 0
        · rw [bl_tok h1 h0 hr]
        · rw [bl_bad h1 h0 hr] at h; exact absurd h hr
    · rw [bl_err h1] at h; exact absurd h h1
theorem lexN_bl (s : ByteArray) : ∀ m k last acc, s.size - k < m → k ≤ s.size → (lexN s m k last acc).code = (bl m (s.data.toList.drop k) k).code ∧ (lexN s m k last acc).pos = (bl m (s.data.toList.drop k) k).pos ∧
    ((lexN s m k last acc).code = 0 → (lexN s m k last acc).toks.map bareT = acc.map bareT ++ (bl m (s.data.toList.drop k) k).toks) := by
  intro m
  induction m with
  | zero => intro k last acc h; omega
  | succ m ih =>
    intro k last acc hm hk
    have e : (s.data.toList.drop k).dropWhile isBl = s.data.toList.drop (blEnd s k) := by rw [dw_drop, List.drop_drop]; rfl
    have e2 : k + ((s.data.toList.drop k).takeWhile isBl).length = blEnd s k := rfl
    have hb2 := blEnd_bd s k hk
    by_cases h1 : (fdAt s (blEnd s k)).err = 0
    · by_cases h0 : (fdAt s (blEnd s k)).kind = 0
      · rw [lexN_succ, if_neg (by omega), if_pos h0, bl_end (by rw [e]; exact h1) (by rw [e]; exact h0)]
        refine ⟨rfl, rfl, fun _ => ?_⟩
        rw [List.map_append, e]; rfl
      · have hjs := fd_kind s (blEnd s k) h0
        have hu := fd_use s (blEnd s k) hjs h1
        obtain ⟨i1, i2, i3⟩ := ih (blEnd s k + (fdAt s (blEnd s k)).used) (lineOf s (blEnd s k + (fdAt s (blEnd s k)).used)) (acc ++ [mkT s (fdAt s (blEnd s k)) (blEnd s k) last]) (by omega) (by omega)
        have e3 : ((s.data.toList.drop k).dropWhile isBl).drop (tokL ((s.data.toList.drop k).dropWhile isBl)).used = s.data.toList.drop (blEnd s k + (fdAt s (blEnd s k)).used) := by rw [e, List.drop_drop]; rfl
        have e4 : k + ((s.data.toList.drop k).takeWhile isBl).length + (tokL ((s.data.toList.drop k).dropWhile isBl)).used = blEnd s k + (fdAt s (blEnd s k)).used := by rw [e]; rfl
        rw [lexN_succ, if_neg (by omega), if_neg h0]
        by_cases hr : (bl m (s.data.toList.drop (blEnd s k + (fdAt s (blEnd s k)).used)) (blEnd s k + (fdAt s (blEnd s k)).used)).code = 0
        · have hb := bl_tok (m := m) (p := k) (l := s.data.toList.drop k) (by rw [e]; exact h1) (by rw [e]; exact h0) (by rw [e3, e4]; exact hr)
          rw [e3, e4] at hb
          rw [hb]
          refine ⟨i1.trans hr, i2.trans (bl_pos0 _ _ _ hr), fun hc => ?_⟩
          rw [i3 hc, List.map_append, e]
          simp [bare_mk, fdAt]
        · have hb := bl_bad (m := m) (p := k) (l := s.data.toList.drop k) (by rw [e]; exact h1) (by rw [e]; exact h0) (by rw [e3, e4]; exact hr)
          rw [e3, e4] at hb
          rw [hb]
          exact ⟨i1, i2, fun hc => absurd (i1.symm.trans hc) hr⟩
    · rw [lexN_succ, if_pos h1, bl_err (by rw [e]; exact h1), e, e2]
      exact ⟨rfl, rfl, fun h => absurd h h1⟩
theorem lex_bl (s : ByteArray) (h : s.size ≤ 65536) : (lexAll s).code = (bl (s.size + 1) s.data.toList 0).code ∧ (lexAll s).pos = (bl (s.size + 1) s.data.toList 0).pos ∧
    ((lexAll s).code = 0 → (lexAll s).toks.map bareT = (bl (s.size + 1) s.data.toList 0).toks) := by
  have := lexN_bl s (s.size + 1) 0 (-1) [] (by omega) (Nat.zero_le _)
  unfold lexAll
  rw [if_neg (by omega)]
  simpa using this
/- More steps than bytes are enough. -/
theorem tok_len (l : List UInt8) (he : (tokL l).err = 0) (hk : (tokL l).kind ≠ 0) : 1 ≤ (tokL l).used ∧ (tokL l).used ≤ l.length := by
  cases l with
  | nil => exact absurd rfl hk
  | cons c r => have := tok_use c r he; simp; omega
theorem dw_len (p : UInt8 → Bool) (l : List UInt8) : (l.dropWhile p).length + (l.takeWhile p).length = l.length := by
  have := congrArg List.length (List.takeWhile_append_dropWhile (p := p) (l := l))
  rw [List.length_append] at this
  omega
theorem bl_fuel : ∀ (m n : Nat) (l : List UInt8) (p : Nat), l.length < m → l.length < n → bl m l p = bl n l p := by
  intro m
  induction m with
  | zero => intro n l p h; omega
  | succ m ih =>
    intro n l p hm hn
    obtain ⟨n, rfl⟩ : ∃ n', n = n' + 1 := ⟨n - 1, by omega⟩
    by_cases h1 : (tokL (l.dropWhile isBl)).err = 0
    · by_cases h0 : (tokL (l.dropWhile isBl)).kind = 0
      · rw [bl_end h1 h0, bl_end h1 h0]
      · have hu := tok_len _ h1 h0
        have hd := dw_len isBl l
        have e := ih n ((l.dropWhile isBl).drop (tokL (l.dropWhile isBl)).used) (p + (l.takeWhile isBl).length + (tokL (l.dropWhile isBl)).used) (by rw [List.length_drop]; omega) (by rw [List.length_drop]; omega)
        rw [bl, bl, e]
    · rw [bl_err h1, bl_err h1]
theorem bl_shift : ∀ (m : Nat) (l : List UInt8) (p : Nat), (bl m l p).code = (bl m l 0).code ∧ ((bl m l p).code ≠ 0 → (bl m l p).pos = p + (bl m l 0).pos) ∧ (bl m l p).toks = (bl m l 0).toks := by
  intro m
  induction m with
  | zero => intro l p; exact ⟨rfl, fun h => absurd rfl h, rfl⟩
  | succ m ih =>
    intro l p
    by_cases h1 : (tokL (l.dropWhile isBl)).err = 0
    · by_cases h0 : (tokL (l.dropWhile isBl)).kind = 0
      · rw [bl_end h1 h0, bl_end h1 h0]; exact ⟨rfl, fun h => absurd rfl h, rfl⟩
      · obtain ⟨a1, a2, a3⟩ := ih ((l.dropWhile isBl).drop (tokL (l.dropWhile isBl)).used) (p + (l.takeWhile isBl).length + (tokL (l.dropWhile isBl)).used)
        obtain ⟨b1, b2, b3⟩ := ih ((l.dropWhile isBl).drop (tokL (l.dropWhile isBl)).used) (0 + (l.takeWhile isBl).length + (tokL (l.dropWhile isBl)).used)
        by_cases hr : (bl m ((l.dropWhile isBl).drop (tokL (l.dropWhile isBl)).used) 0).code = 0
        · rw [bl_tok h1 h0 (a1.trans hr), bl_tok h1 h0 (b1.trans hr)]
          exact ⟨rfl, fun h => absurd rfl h, by simp only []; rw [a3, b3]⟩
        · rw [bl_bad h1 h0 (by rw [a1]; exact hr), bl_bad h1 h0 (by rw [b1]; exact hr)]
          refine ⟨by simp only []; rw [a1, b1], fun _ => ?_, rfl⟩
          simp only []
          rw [a2 (by rw [a1]; exact hr), b2 (by rw [b1]; exact hr)]
          omega
    · rw [bl_err h1, bl_err h1]
      exact ⟨rfl, fun _ => by simp only []; omega, rfl⟩

/- What a blank behind a token leaves. -/
theorem tw_app (p : UInt8 → Bool) (b : UInt8) (t : List UInt8) (hb : p b = false) : ∀ l : List UInt8, (l ++ b :: t).takeWhile p = l.takeWhile p
  | [] => by rw [List.nil_append, List.takeWhile_cons, hb]; rfl
  | c :: r => by
    rw [List.cons_append, List.takeWhile_cons, List.takeWhile_cons, tw_app p b t hb r]
theorem rd_app (X : List UInt8) : ∀ l sh acc u, (rd 0 l sh acc u).2.2 = 0 → rd 0 (l ++ X) sh acc u = rd 0 l sh acc u := by
  intro l
  induction l with
  | nil => intro sh acc u h; cases sh <;> simp [rd] at h
  | cons c r ih =>
    intro sh acc u h
    have hcl : clos 0 ((c :: r) ++ X) = clos 0 (c :: r) := by rw [List.cons_append, clos0, clos0]
    cases sh with
    | true =>
      rw [List.cons_append]
      simp only [rd] at h ⊢
      split at h
      · rename_i h1
        rw [if_pos h1, if_pos h1]
        split at h
        · simp at h
        · rename_i h2
          rw [if_neg h2, if_neg h2]
          exact ih _ _ _ h
      · simp at h
    | false =>
      rw [List.cons_append] at hcl ⊢
      simp only [rd] at h ⊢
      rw [hcl]
      split at h
      · rename_i h1; rw [if_pos h1, if_pos h1]
      · rename_i h1
        rw [if_neg h1, if_neg h1]
        split at h
        · rename_i h2; rw [if_pos h2, if_pos h2]; exact ih _ _ _ h
        · rename_i h2
          rw [if_neg h2, if_neg h2]
          split at h
          · simp at h
          · rename_i h3
            rw [if_neg h3, if_neg h3]
            split at h
            · simp at h
            · rename_i h4
              rw [if_neg h4, if_neg h4]
              exact ih _ _ _ h
theorem hp_app (b : UInt8) (t : List UInt8) : ∀ (g l : List UInt8), b ∉ g → Lib.hasPrefix (l ++ b :: t) g = Lib.hasPrefix l g := by
  intro g
  induction g with
  | nil => intro l _; rw [hp_nil, hp_nil]
  | cons x xs ih =>
    intro l hb
    cases l with
    | nil =>
      rw [List.nil_append, hp_cons]
      have : (x == b) = false := by
        have : x ≠ b := fun e => hb (by rw [e]; simp)
        simpa using this
      rw [this]; rfl
    | cons c r =>
      rw [List.cons_append, hp_cons, hp_cons, ih r (fun h => hb (by simp [h]))]
theorem signs_nob (b : UInt8) (h : isBl b = true) : ∀ g ∈ signs, b ∉ g := by
  have := all8 (q := fun b => !isBl b || (signs.all fun g => !g.contains b)) (by decide +kernel) b
  rw [h] at this
  simp at this
  intro g hg hb
  exact this g hg hb
theorem bl_not (b : UInt8) (h : isBl b = true) : isDig b = false ∧ isNam b = false ∧ isLet b = false ∧ (b == 39) = false ∧ (b == 123) = false ∧ (b == 35) = false := by
  have := all8 (q := fun b => !isBl b || (!isDig b && !isNam b && !isLet b && !(b == 39) && !(b == 123) && !(b == 35))) (by decide +kernel) b
  rw [h] at this
  simp at this
  simp [this]
theorem find_congr {f g : List UInt8 → Bool} : ∀ l : List (List UInt8), (∀ x ∈ l, f x = g x) → l.find? f = l.find? g
  | [], _ => rfl
  | x :: r, h => by
    rw [List.find?_cons, List.find?_cons, h x (by simp), find_congr r fun y hy => h y (by simp [hy])]
/-- A token with a blank behind it is the same token. -/
theorem tok_app (c : UInt8) (r : List UInt8) (b : UInt8) (t : List UInt8) (hb : isBl b = true) (he : (tokL (c :: r)).err = 0) : tokL ((c :: r) ++ b :: t) = tokL (c :: r) := by
  obtain ⟨nd, nn, nl, n39, _, _⟩ := bl_not b hb
  rw [List.cons_append, tokL_cons, tokL_cons]
  rw [tokL_cons] at he
  split
  · rename_i h1
    rw [if_pos h1] at he
    have hc : c = 123 := by simpa using h1
    subst hc
    unfold noteL at he ⊢
    rw [read_cons] at he ⊢
    rw [read_cons]
    split at he
    · rename_i h2
      rw [rd_app _ _ _ _ _ h2]
    · rename_i h2; exact absurd he h2
  · rename_i h1
    rw [if_neg h1] at he
    split
    · rename_i h2
      rw [← List.cons_append, tw_app isDig b t nd]
    · rename_i h2
      rw [if_neg h2] at he
      split
      · rename_i h3
        rw [← List.cons_append, tw_app isNam b t nn]
      · rename_i h3
        rw [if_neg h3] at he
        split
        · rename_i h4
          rw [if_pos h4] at he
          have hc : c = 39 := by simpa using h4
          subst hc
          unfold quoteL at he ⊢
          rw [← List.cons_append, hp_app b t _ _ (by intro h; simp at h; rw [h] at n39; cases n39)]
          split
          · rfl
          · rename_i h5
            rw [if_neg h5] at he
            split at he
            · rename_i h6
              have h6' := h6
              rw [Bool.and_eq_true] at h6'
              have hl := quote_hp h6'.2
              have e1 : ((39 :: r) ++ b :: t).getD 1 0 = (39 :: r).getD 1 0 := by
                match r, hl with
                | _ :: _ :: _, _ => rfl
              have e2 : ((39 :: r) ++ b :: t).getD 2 0 = (39 :: r).getD 2 0 := by
                match r, hl with
                | _ :: _ :: _, _ => rfl
              rw [e1, e2]
            · cases he
        · rename_i h4
          rw [if_neg h4] at he
          split
          · rw [tw_app isDig b t nd]
          · unfold signL
            rw [← List.cons_append]
            have : (signs.find? fun g => Lib.hasPrefix ((c :: r) ++ b :: t) g) = signs.find? fun g => Lib.hasPrefix (c :: r) g := by
              apply find_congr
              intro g hg
              rw [hp_app b t g _ (signs_nob b hb g hg)]
            rw [this]
theorem dw_app1 (p : UInt8 → Bool) (X : List UInt8) : ∀ l : List UInt8, l.dropWhile p = [] → (l ++ X).dropWhile p = X.dropWhile p ∧ (l ++ X).takeWhile p = l ++ X.takeWhile p
  | [], _ => ⟨rfl, rfl⟩
  | c :: r, h => by
    rw [List.dropWhile_cons] at h
    split at h
    · rename_i hc
      have := dw_app1 p X r h
      rw [List.cons_append, List.dropWhile_cons, List.takeWhile_cons, if_pos hc, if_pos hc, this.1, this.2]
      exact ⟨rfl, rfl⟩
    · cases h
theorem dw_app2 (p : UInt8 → Bool) (X : List UInt8) : ∀ l : List UInt8, l.dropWhile p ≠ [] → (l ++ X).dropWhile p = l.dropWhile p ++ X ∧ (l ++ X).takeWhile p = l.takeWhile p
  | [], h => absurd rfl h
  | c :: r, h => by
    rw [List.dropWhile_cons] at h
    rw [List.cons_append, List.dropWhile_cons, List.takeWhile_cons, List.dropWhile_cons, List.takeWhile_cons]
    split
    · rename_i hc
      rw [if_pos hc] at h
      have := dw_app2 p X r h
      rw [this.1, this.2]
      exact ⟨rfl, rfl⟩
    · exact ⟨rfl, rfl⟩
theorem bl_skip (M : Nat) (l t : List UInt8) (p q : Nat) (h1 : l.dropWhile isBl = t.dropWhile isBl) (h2 : p + (l.takeWhile isBl).length = q + (t.takeWhile isBl).length) : bl M l p = bl M t q := by
  cases M with
  | zero => rfl
  | succ M => rw [bl, bl, h1, h2]
theorem bl_step {M p n : Nat} {L D : List UInt8} {f : Fd} (h1 : tokL (L.dropWhile isBl) = f) (h2 : (L.takeWhile isBl).length = n) (h3 : (L.dropWhile isBl).drop f.used = D) (he : f.err = 0) (hk : f.kind ≠ 0) :
    bl (M + 1) L p = if (bl M D (p + n + f.used)).code ≠ 0 then ⟨(bl M D (p + n + f.used)).code, (bl M D (p + n + f.used)).pos, []⟩ else ⟨0, 0, bareF f :: (bl M D (p + n + f.used)).toks⟩ := by
  rw [bl, h1, if_neg (by omega), if_neg hk, h2, h3]
theorem bl_join (b : UInt8) (hb : isBl b = true) (t : List UInt8) : ∀ (m : Nat) (l : List UInt8) (p M : Nat), l.length < m → (l ++ b :: t).length < M → (bl m l p).code = 0 →
    (bl M (l ++ b :: t) p).code = (bl M t (p + l.length + 1)).code ∧ (bl M (l ++ b :: t) p).pos = (bl M t (p + l.length + 1)).pos ∧
    ((bl M t (p + l.length + 1)).code = 0 → (bl M (l ++ b :: t) p).toks = (bl m l p).toks.dropLast ++ (bl M t (p + l.length + 1)).toks) ∧ (bl m l p).toks ≠ [] := by
  intro m
  induction m with
  | zero => intro l p M h; omega
  | succ m ih =>
    intro l p M hm hM hc
    by_cases hl : l.dropWhile isBl = []
    · have ha := dw_app1 isBl (b :: t) l hl
      have e1 : (l ++ b :: t).dropWhile isBl = t.dropWhile isBl := by rw [ha.1, List.dropWhile_cons, if_pos hb]
      have e2 : ((l ++ b :: t).takeWhile isBl).length = l.length + 1 + (t.takeWhile isBl).length := by rw [ha.2, List.takeWhile_cons, if_pos hb, List.length_append, List.length_cons]; omega
      rw [bl_skip M _ t p (p + l.length + 1) e1 (by omega)]
      rw [bl_end (by rw [hl]; rfl) (by rw [hl]; rfl)]
      exact ⟨rfl, rfl, fun _ => rfl, by simp⟩
    · obtain ⟨c, r, hcr⟩ : ∃ c r, l.dropWhile isBl = c :: r := by
        cases h : l.dropWhile isBl with
        | nil => exact absurd h hl
        | cons c r => exact ⟨c, r, rfl⟩
      obtain ⟨a1, a2⟩ := dw_app2 isBl (b :: t) l hl
      have h1 : (tokL (l.dropWhile isBl)).err = 0 := by
        by_cases h : (tokL (l.dropWhile isBl)).err = 0
        · exact h
        · rw [bl_err h] at hc; exact hc
      have hu := tok_use c r (by rw [← hcr]; exact h1)
      rw [← hcr] at hu
      have h0 : (tokL (l.dropWhile isBl)).kind ≠ 0 := by omega
      have hd := dw_len isBl l
      have hlc : (l.dropWhile isBl).length = r.length + 1 := by rw [hcr]; rfl
      have et : tokL ((l ++ b :: t).dropWhile isBl) = tokL (l.dropWhile isBl) := by rw [a1, hcr]; exact tok_app c r b t hb (by rw [← hcr]; exact h1)
      have ed : ((l ++ b :: t).dropWhile isBl).drop (tokL (l.dropWhile isBl)).used = (l.dropWhile isBl).drop (tokL (l.dropWhile isBl)).used ++ b :: t := by
        rw [a1, List.drop_append_of_le_length (by omega)]
      have hr : (bl m ((l.dropWhile isBl).drop (tokL (l.dropWhile isBl)).used) (p + (l.takeWhile isBl).length + (tokL (l.dropWhile isBl)).used)).code = 0 := by
        by_cases h : (bl m ((l.dropWhile isBl).drop (tokL (l.dropWhile isBl)).used) (p + (l.takeWhile isBl).length + (tokL (l.dropWhile isBl)).used)).code = 0
        · exact h
        · rw [bl_bad h1 h0 h] at hc; exact hc
      obtain ⟨M, rfl⟩ : ∃ M', M = M' + 1 := ⟨M - 1, by omega⟩
      have hMl : l.length + 1 + t.length < M + 1 := by rw [List.length_append, List.length_cons] at hM; omega
      have hI := ih ((l.dropWhile isBl).drop (tokL (l.dropWhile isBl)).used) (p + (l.takeWhile isBl).length + (tokL (l.dropWhile isBl)).used) M (by rw [List.length_drop]; omega) (by rw [List.length_append, List.length_drop, List.length_cons]; omega) hr
      have hpos : p + (l.takeWhile isBl).length + (tokL (l.dropWhile isBl)).used + ((l.dropWhile isBl).drop (tokL (l.dropWhile isBl)).used).length + 1 = p + l.length + 1 := by rw [List.length_drop]; omega
      rw [hpos, bl_fuel M (M + 1) t (p + l.length + 1) (by omega) (by omega)] at hI
      obtain ⟨i1, i2, i3, i4⟩ := hI
      have hs1 := bl_step (M := m) (p := p) (L := l) rfl rfl rfl h1 h0
      have hs2 := bl_step (M := M) (p := p) (L := l ++ b :: t) et (by rw [a2]) ed h1 h0
      generalize tokL (l.dropWhile isBl) = f at *
      generalize (l.dropWhile isBl).drop f.used = D at *
      generalize p + (l.takeWhile isBl).length + f.used = q at *
      rw [if_neg (by omega)] at hs1
      rw [hs1, hs2]
      by_cases hT : (bl (M + 1) t (p + l.length + 1)).code = 0
      · rw [if_neg (by omega)]
        refine ⟨hT.symm, (bl_pos0 _ _ _ hT).symm, fun _ => ?_, by simp⟩
        simp only []
        rw [i3 hT]
        obtain ⟨x, y, hxy⟩ : ∃ x y, (bl m D q).toks = x :: y := by
          cases h : (bl m D q).toks with
          | nil => exact absurd h i4
          | cons x y => exact ⟨x, y, rfl⟩
        rw [hxy]
        rfl
      · rw [if_pos (by omega)]
        exact ⟨i1, i2, fun h => absurd h hT, by simp⟩
/-- Behind a text that has tokens, and a blank, another text. -/
theorem lex_join (s t u : ByteArray) (hu : u.data.toList = s.data.toList ++ 32 :: t.data.toList) (hz : u.size ≤ 65536) (hc : (lexAll s).code = 0) :
    (lexAll u).code = (lexAll t).code ∧ ((lexAll t).code ≠ 0 → (lexAll u).pos = s.size + 1 + (lexAll t).pos) ∧
    ((lexAll t).code = 0 → (lexAll u).toks.map bareT = ((lexAll s).toks.map bareT).dropLast ++ (lexAll t).toks.map bareT) ∧ (lexAll s).toks.map bareT ≠ [] := by
  have hul : u.size = s.size + 1 + t.size := by rw [← len_size u, hu, List.length_append, List.length_cons, len_size, len_size]; omega
  obtain ⟨s1, s2, s3⟩ := lex_bl s (by omega)
  obtain ⟨t1, t2, t3⟩ := lex_bl t (by omega)
  obtain ⟨u1, u2, u3⟩ := lex_bl u hz
  have hsl := len_size s
  have htl := len_size t
  have hJ := bl_join 32 (by decide) t.data.toList (s.size + 1) s.data.toList 0 (u.size + 1) (by omega) (by rw [← hu, len_size]; omega) (by rw [← s1]; exact hc)
  rw [← hu] at hJ
  obtain ⟨c1, c2, c3⟩ := bl_shift (u.size + 1) t.data.toList (0 + s.data.toList.length + 1)
  rw [bl_fuel (u.size + 1) (t.size + 1) t.data.toList 0 (by omega) (by omega), ← t1] at c1
  rw [bl_fuel (u.size + 1) (t.size + 1) t.data.toList 0 (by omega) (by omega), ← t2] at c2
  rw [bl_fuel (u.size + 1) (t.size + 1) t.data.toList 0 (by omega) (by omega)] at c3
  obtain ⟨j1, j2, j3, j4⟩ := hJ
  refine ⟨by rw [u1, j1, c1], fun h => ?_, fun h => ?_, by rw [s3 hc]; exact j4⟩
  · rw [u2, j2, c2 (by rw [c1]; exact h), hsl]; omega
  · rw [u3 (by rw [u1, j1, c1]; exact h), j3 (by rw [c1]; exact h), s3 hc, t3 h, c3]
end Go.Proofs.YtjdmaindoohmkaaDoor.P
