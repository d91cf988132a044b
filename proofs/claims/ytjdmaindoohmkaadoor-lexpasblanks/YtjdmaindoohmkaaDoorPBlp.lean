/-
  Tokens' own texts are read as these tokens.
-/
import Derived.Test.YtjdmaindoohmkaaDoorPBln
namespace Go.Proofs.YtjdmaindoohmkaaDoor.P
open Go.RowKit

/-- What may stand behind a token: nothing, or a blank first. -/
def Behind (X : List UInt8) : Prop := X = [] ∨ ∃ b t, X = b :: t ∧ isBl b = true
theorem tw_behind (p : UInt8 → Bool) (hp : ∀ b, isBl b = true → p b = false) {X : List UInt8} (hX : Behind X) (l : List UInt8) (hl : ∀ c ∈ l, p c = true) : (l ++ X).takeWhile p = l := by
  rcases hX with rfl | ⟨b, t, rfl, hb⟩
  · rw [List.append_nil]; exact tw_all p l hl
  · rw [tw_app p b t (hp b hb), tw_all p l hl]
theorem hp_behind {X : List UInt8} (hX : Behind X) {g l : List UInt8} (hg : ∀ b, isBl b = true → b ∉ g) : Lib.hasPrefix (l ++ X) g = Lib.hasPrefix l g := by
  rcases hX with rfl | ⟨b, t, rfl, hb⟩
  · rw [List.append_nil]
  · exact hp_app b t g l (hg b hb)
theorem low_facts (x : UInt8) (h : isNam x = true) : Lib.lowerB (Lib.lowerB x) = Lib.lowerB x ∧ isNam (Lib.lowerB x) = true := by
  have := all8 (q := fun x => !isNam x || ((Lib.lowerB (Lib.lowerB x) == Lib.lowerB x) && isNam (Lib.lowerB x))) (by decide +kernel) x
  rw [h] at this
  simpa using this
theorem low_let (x : UInt8) (h : isLet x = true) : isLet (Lib.lowerB x) = true := by
  have := all8 (q := fun x => !isLet x || isLet (Lib.lowerB x)) (by decide +kernel) x
  rw [h] at this
  simpa using this
theorem IsNm.low {nm : List UInt8} (h : IsNm nm) : IsNm (nm.map Lib.lowerB) ∧ (nm.map Lib.lowerB).map Lib.lowerB = nm.map Lib.lowerB := by
  refine ⟨⟨?_, ?_, by simp; exact h.len⟩, ?_⟩
  · intro c hc
    obtain ⟨x, hx, rfl⟩ := List.mem_map.1 hc
    exact (low_facts x (h.all x hx)).2
  · obtain ⟨c, r, rfl, hl⟩ := h.hd
    exact ⟨_, _, rfl, low_let c hl⟩
  · rw [List.map_map]
    apply List.map_congr_left
    intro x hx
    exact (low_facts x (h.all x hx)).1
theorem dig_not (c : UInt8) (h : isDig c = true) : isBl c = false ∧ (c == 123) = false := by
  have := all8 (q := fun c => !isDig c || (!isBl c && !(c == 123))) (by decide +kernel) c
  rw [h] at this
  simp at this
  simp [this]
theorem sign_first (g : List UInt8) (hg : g ∈ signs) : (∃ c r, g = c :: r ∧ isBl c = false ∧ (c == 123) = false ∧ isDig c = false ∧ isLet c = false ∧ (c == 39) = false ∧ (c == 35) = false) ∧ signs.find? (fun x => Lib.hasPrefix g x) = some g := by
  have h : ∀ g ∈ signs, (match g with | [] => false | c :: _ => !isBl c && !(c == 123) && !isDig c && !isLet c && !(c == 39) && !(c == 35)) = true ∧ signs.find? (fun x => Lib.hasPrefix g x) = some g := by decide +kernel
  obtain ⟨h1, h2⟩ := h g hg
  refine ⟨?_, h2⟩
  cases g with
  | nil => cases h1
  | cons c r =>
    simp at h1
    exact ⟨c, r, rfl, by simp [h1], by simp [h1], by simp [h1], by simp [h1], by simp [h1], by simp [h1]⟩
theorem dd_first (n : Nat) : ∃ c r, Lib.decDigits n = c :: r ∧ isDig c = true := by
  have hp := dd_pos n
  cases h : Lib.decDigits n with
  | nil => rw [h] at hp; simp at hp
  | cons c r =>
    have := dd_all n c (by rw [h]; simp)
    exact ⟨c, r, rfl, by unfold isDig; rw [decide_eq_true this.1, decide_eq_true this.2]; rfl⟩
theorem dd_dig (n : Nat) : ∀ c ∈ Lib.decDigits n, isDig c = true := fun c hc => by
  have := dd_all n c hc
  unfold isDig; rw [decide_eq_true this.1, decide_eq_true this.2]; rfl
theorem ofNat_vis (n : Nat) (h1 : 32 ≤ n) (h2 : n ≤ 126) (h3 : n ≠ 39) : visB (UInt8.ofNat n) = true ∧ (UInt8.ofNat n).toNat = n ∧ (UInt8.ofNat n == 39) = false := by
  have e : (UInt8.ofNat n).toNat = n := by simp; omega
  refine ⟨?_, e, ?_⟩
  · unfold visB
    rw [e, decide_eq_true h1, decide_eq_true h2]
    simp
    intro hh
    have := congrArg UInt8.toNat hh
    rw [e] at this
    exact h3 this
  · simp
    intro hh
    have := congrArg UInt8.toNat hh
    rw [e] at this
    exact h3 this
/-- A token's own text, with a blank or nothing behind it, is read as that token. -/
theorem tok_text (t : Tk) (hg : GoodT t) (hk : t.kind ≠ 0) (X : List UInt8) (hX : Behind X) :
    tokL (textT t ++ X) = ⟨t.kind, t.text, t.n, (textT t).length, 0⟩ ∧ ∃ c r, textT t = c :: r ∧ isBl c = false := by
  have nb : ∀ b, isBl b = true → isDig b = false := fun b hb => (bl_not b hb).1
  have nn : ∀ b, isBl b = true → isNam b = false := fun b hb => (bl_not b hb).2.1
  rcases hg with ⟨h, _⟩ | ⟨hk1, hn, nm, hnm, htx, hkd⟩ | ⟨hk3, htx, hn⟩ | ⟨hk4, htx, hn⟩ | ⟨hk5, hn, hsg⟩ | ⟨hk6, hn, hck⟩
  · exact absurd h hk
  · have ht : textT t = t.text := text_t (by rcases hk1 with h | h; exact .inl h; exact .inr (.inl h))
    obtain ⟨l1, l2⟩ := hnm.low
    rw [← htx] at l1 l2
    obtain ⟨c, r, hcr, hl⟩ := l1.hd
    obtain ⟨b1, b2, b3⟩ := let_not c hl
    rw [ht]
    refine ⟨?_, c, r, hcr, b1⟩
    have htw := tw_behind isNam nn hX t.text l1.all
    have hlen := l1.len
    rw [hcr] at htw ⊢
    rw [List.cons_append] at htw ⊢
    rw [tokL_cons, b2, if_neg (by decide), b3, if_neg (by decide), if_pos hl, htw, ← hcr]
    unfold nameL
    rw [if_neg (by omega), l2, ← hkd, hn]
  · rw [text_3 hk3]
    obtain ⟨c, r, hcr, hd⟩ := dd_first t.n
    obtain ⟨b1, b2⟩ := dig_not c hd
    refine ⟨?_, c, r, hcr, b1⟩
    have htw := tw_behind isDig nb hX _ (dd_dig t.n)
    have hv := valL_dd t.n
    rw [hcr] at htw hv ⊢
    rw [List.cons_append] at htw ⊢
    rw [tokL_cons, b2, if_neg (by decide), if_pos hd, htw]
    unfold intL
    rw [hv, if_neg (by omega), hk3, htx]
  · rw [text_4 hk4]
    unfold charL
    split
    · rename_i h39
      refine ⟨?_, 39, _, rfl, by decide⟩
      rw [show ([39, 39, 39, 39] : List UInt8) ++ X = 39 :: 39 :: 39 :: 39 :: X from rfl, tokL_cons, if_neg (by decide), if_neg (by decide), if_neg (by decide), if_pos (by decide)]
      unfold quoteL
      rw [if_pos (by simp [Lib.hasPrefix]), hk4, htx, h39]
      rfl
    · rename_i h39
      split
      · rename_i hv
        simp at hv
        obtain ⟨v1, v2, v3⟩ := ofNat_vis t.n hv.1 hv.2 h39
        refine ⟨?_, 39, _, rfl, by decide⟩
        rw [show ([39, UInt8.ofNat t.n, 39] : List UInt8) ++ X = 39 :: UInt8.ofNat t.n :: 39 :: X from rfl, tokL_cons, if_neg (by decide), if_neg (by decide), if_neg (by decide), if_pos (by decide)]
        unfold quoteL
        have hpf : Lib.hasPrefix (39 :: UInt8.ofNat t.n :: 39 :: X) [39, 39, 39, 39] = false := by
          rw [hp_cons, hp_cons, show ((39 : UInt8) == UInt8.ofNat t.n) = (UInt8.ofNat t.n == 39) from Bool.beq_comm, v3]; rfl
        rw [hpf, if_neg (by decide), if_pos (by show (visB (UInt8.ofNat t.n) && ((39 : UInt8) == 39)) = true; rw [v1]; rfl)]
        rw [hk4, htx]
        show (⟨4, [], (UInt8.ofNat t.n).toNat, 3, 0⟩ : Fd) = _
        rw [v2]; rfl
      · rename_i hv
        refine ⟨?_, 35, _, rfl, by decide⟩
        have htw := tw_behind isDig nb hX _ (dd_dig t.n)
        rw [List.cons_append, tokL_cons, if_neg (by decide), if_neg (by decide), if_neg (by decide), if_neg (by decide), if_pos (by decide), htw]
        unfold hashL
        have h0 : (Lib.decDigits t.n).length ≠ 0 := by have := dd_pos t.n; omega
        have h3 : ¬ 3 < (Lib.decDigits t.n).length := by have := dd_le 3 t.n (by omega) (by omega); omega
        rw [valL_dd, decide_eq_false h0, decide_eq_false h3, decide_eq_false (by omega : ¬ 255 < t.n), if_neg (by decide), hk4, htx, List.length_cons, Nat.add_comm]
  · rw [text_t (.inr (.inr hk5))]
    obtain ⟨⟨c, r, hcr, b1, b2, b3, b4, b5, b6⟩, hfi⟩ := sign_first t.text hsg
    refine ⟨?_, c, r, hcr, b1⟩
    have hfi2 : signs.find? (fun x => Lib.hasPrefix (t.text ++ X) x) = some t.text := by
      rw [← hfi]
      apply find_congr
      intro x hx
      exact hp_behind hX (fun b hb => signs_nob b hb x hx)
    rw [hcr] at hfi2 ⊢
    rw [List.cons_append] at hfi2 ⊢
    rw [tokL_cons, b2, if_neg (by decide), b3, if_neg (by decide), b4, if_neg (by decide), b5, if_neg (by decide), b6, if_neg (by decide)]
    unfold signL
    rw [hfi2, hk5, hn]
  · rw [text_6 hk6]
    have hrf := read_form 0 (.inl rfl) t.text X hck
    obtain ⟨r, hr⟩ : ∃ r, form 0 t.text = 123 :: r := ⟨_, rfl⟩
    refine ⟨?_, 123, r, hr, by decide⟩
    rw [hr] at hrf ⊢
    rw [List.cons_append] at hrf ⊢
    rw [tokL_cons, if_pos (by decide)]
    unfold noteL
    rw [hrf, if_pos rfl, hk6, hn]
/-- Tokens' own texts, one behind the other, each with blanks ahead of it. -/
def joinB (bs : Nat → List UInt8) : Nat → List Tk → List UInt8
  | _, [] => []
  | i, t :: r => bs i ++ (textT t ++ joinB bs (i + 1) r)
theorem joinB_snoc (bs : Nat → List UInt8) (t : Tk) : ∀ (ts : List Tk) (i : Nat), joinB bs i (ts ++ [t]) = joinB bs i ts ++ (bs (i + ts.length) ++ textT t)
  | [], i => by simp [joinB]
  | x :: r, i => by
    rw [List.cons_append, joinB, joinB, joinB_snoc bs t r (i + 1), List.length_cons, show i + 1 + r.length = i + (r.length + 1) by omega]
    simp
def BlankF (bs : Nat → List UInt8) : Prop := ∀ i, (∀ c ∈ bs i, isBl c = true) ∧ bs i ≠ []
theorem joinB_behind {bs : Nat → List UInt8} (hb : BlankF bs) (i : Nat) (ts : List Tk) : Behind (joinB bs i ts) := by
  cases ts with
  | nil => exact .inl rfl
  | cons t r =>
    right
    obtain ⟨h1, h2⟩ := hb i
    cases h : bs i with
    | nil => exact absurd h h2
    | cons c x => exact ⟨c, _, by rw [joinB, h, List.cons_append], h1 c (by rw [h]; simp)⟩
theorem dw_all (p : UInt8 → Bool) (l : List UInt8) (h : ∀ c ∈ l, p c = true) : l.dropWhile p = [] := by
  induction l with
  | nil => rfl
  | cons c r ih => rw [List.dropWhile_cons, if_pos (h c (by simp))]; exact ih fun x hx => h x (by simp [hx])
theorem bl_blanks {bs : Nat → List UInt8} (hb : BlankF bs) : ∀ (l : List Tk) (e : Tk) (i p M : Nat), (∀ t ∈ l, GoodT t ∧ t.kind ≠ 0) → GoodT e → e.kind = 0 → (joinB bs i (l ++ [e])).length < M →
    (bl M (joinB bs i (l ++ [e])) p).code = 0 ∧ (bl M (joinB bs i (l ++ [e])) p).toks = (l ++ [e]).map bareT := by
  intro l
  induction l with
  | nil =>
    intro e i p M _ he hk hM
    obtain ⟨M, rfl⟩ : ∃ m, M = m + 1 := ⟨M - 1, by omega⟩
    have e1 : joinB bs i ([] ++ [e]) = bs i := by simp [joinB, text_0 hk]
    have e2 : (bs i).dropWhile isBl = [] := dw_all isBl _ (hb i).1
    rw [e1, bl_end (by rw [e2]; rfl) (by rw [e2]; rfl), e2]
    refine ⟨rfl, ?_⟩
    rcases he with ⟨h1, h2, h3⟩ | ⟨h, _⟩ | ⟨h, _⟩ | ⟨h, _⟩ | ⟨h, _⟩ | ⟨h, _⟩
    · show [bareF (bad 0)] = [bareT e]
      unfold bareT bareF bad
      rw [h1, h2, h3]
    all_goals omega
  | cons t r ih =>
    intro e i p M hl he hk hM
    obtain ⟨hg, hkt⟩ := hl t (by simp)
    have hX := joinB_behind hb (i + 1) (r ++ [e])
    obtain ⟨ht, c, x, hc, hcb⟩ := tok_text t hg hkt _ hX
    have ej : joinB bs i (t :: r ++ [e]) = bs i ++ (textT t ++ joinB bs (i + 1) (r ++ [e])) := rfl
    have e2 := dw_app1 isBl (textT t ++ joinB bs (i + 1) (r ++ [e])) (bs i) (dw_all isBl _ (hb i).1)
    have e3 : (textT t ++ joinB bs (i + 1) (r ++ [e])).dropWhile isBl = textT t ++ joinB bs (i + 1) (r ++ [e]) := by rw [hc, List.cons_append, List.dropWhile_cons, hcb]; rfl
    rw [e3] at e2
    obtain ⟨M, rfl⟩ : ∃ m, M = m + 1 := ⟨M - 1, by omega⟩
    have hlen : 1 ≤ (textT t).length := by rw [hc]; simp
    have hst := bl_step (M := M) (p := p) (L := joinB bs i (t :: r ++ [e])) (f := ⟨t.kind, t.text, t.n, (textT t).length, 0⟩) (D := joinB bs (i + 1) (r ++ [e])) (n := ((joinB bs i (t :: r ++ [e])).takeWhile isBl).length) (by rw [ej, e2.1]; exact ht) rfl (by rw [ej, e2.1]; exact List.drop_left) rfl hkt
    have hI := ih e (i + 1) (p + ((joinB bs i (t :: r ++ [e])).takeWhile isBl).length + (textT t).length) M (fun y hy => hl y (by simp [hy])) he hk (by rw [ej, List.length_append, List.length_append] at hM; omega)
    rw [if_neg (by rw [hI.1]; decide)] at hst
    rw [hst]
    refine ⟨rfl, ?_⟩
    show bareF _ :: _ = _
    rw [hI.2]
    rfl
theorem good_bare {t : Tk} (h : GoodT (bareT t)) : GoodT t := h
theorem text_bare (t : Tk) : textT (bareT t) = textT t := rfl
def sumL (ts : List Tk) : Nat := (ts.map fun t => (textT t).length).sum
theorem sumL_snoc (ts : List Tk) (t : Tk) : sumL (ts ++ [t]) = sumL ts + (textT t).length := by simp [sumL]
theorem lexN_good (s : ByteArray) : ∀ m k last acc, s.size - k < m → k ≤ s.size → (∀ t ∈ acc, GoodT t ∧ t.kind ≠ 0) → sumL acc ≤ 2 * k → (lexN s m k last acc).code = 0 →
    ∃ l e, (lexN s m k last acc).toks = l ++ [e] ∧ e.kind = 0 ∧ GoodT e ∧ (∀ t ∈ l, GoodT t ∧ t.kind ≠ 0) ∧ sumL (l ++ [e]) ≤ 2 * s.size := by
  intro m
  induction m with
  | zero => intro k last acc h; omega
  | succ m ih =>
    intro k last acc hm hk hg hs hc
    have hb := blEnd_bd s k hk
    rw [lexN_succ] at hc ⊢
    generalize hj : blEnd s k = j at hb hc ⊢
    have hfu := fd_use s j
    by_cases h1 : (fdAt s j).err = 0
    · have hgd := tok_good (s.data.toList.drop j) h1
      rw [if_neg (by omega)] at hc ⊢
      by_cases h0 : (fdAt s j).kind = 0
      · rw [if_pos h0]
        refine ⟨acc, mkT s (fdAt s j) j last, rfl, h0, hgd.1, hg, ?_⟩
        rw [sumL_snoc, text_0 (t := mkT s (fdAt s j) j last) h0]
        simp; omega
      · rw [if_neg h0] at hc ⊢
        have hjs := fd_kind s j h0
        have hu := hfu hjs h1
        refine ih _ _ _ (by omega) (by omega) (fun t ht => ?_) ?_ hc
        · rcases List.mem_append.1 ht with h | h
          · exact hg t h
          · obtain rfl : t = mkT s (fdAt s j) j last := by simpa using h
            exact ⟨hgd.1, h0⟩
        · rw [sumL_snoc]
          have : (textT (mkT s (fdAt s j) j last)).length ≤ 2 * (fdAt s j).used := hgd.2
          omega
    · rw [if_pos h1] at hc
      exact absurd hc h1
theorem lex_good (s : ByteArray) (hc : (lexAll s).code = 0) : ∃ l e, (lexAll s).toks = l ++ [e] ∧ e.kind = 0 ∧ GoodT e ∧ (∀ t ∈ l, GoodT t ∧ t.kind ≠ 0) ∧ sumL (lexAll s).toks ≤ 2 * s.size := by
  unfold lexAll at hc ⊢
  split at hc
  · cases hc
  · rename_i h
    rw [if_neg h]
    obtain ⟨l, e, h1, h2, h3, h4, h5⟩ := lexN_good s (s.size + 1) 0 (-1) [] (by omega) (Nat.zero_le _) (fun t h => by cases h) (by simp [sumL]) hc
    exact ⟨l, e, h1, h2, h3, h4, by rw [h1]; exact h5⟩
/-- Blanks between tokens change nothing but places. -/
theorem lex_blanks {bs : Nat → List UInt8} (hb : BlankF bs) (s u : ByteArray) (hc : (lexAll s).code = 0) (hu : u.data.toList = joinB bs 0 (lexAll s).toks) (hz : u.size ≤ 65536) :
    (lexAll u).code = 0 ∧ (lexAll u).toks.map bareT = (lexAll s).toks.map bareT := by
  obtain ⟨l, e, h1, h2, h3, h4, h5⟩ := lex_good s hc
  obtain ⟨u1, u2, u3⟩ := lex_bl u hz
  rw [h1] at hu
  have hM := bl_blanks hb l e 0 0 (u.size + 1) h4 h3 h2 (by rw [← hu, len_size]; omega)
  rw [← hu] at hM
  refine ⟨u1.trans hM.1, ?_⟩
  rw [u3 (u1.trans hM.1), hM.2, h1]
end Go.Proofs.YtjdmaindoohmkaaDoor.P
