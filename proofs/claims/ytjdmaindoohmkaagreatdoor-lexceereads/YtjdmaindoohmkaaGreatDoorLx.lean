/-
  Tokens of Cee, plainly: the token that a text begins with; all of them.
-/
import Derived.Test.YtjdmaindoohmkaaGreatDoorNt
import Derived.Test.YtjdmaindoohmkaaGreatDoorWd
import Derived.Test.YtjdmaindoohmkaaGreatDoorDgs
namespace Go.Proofs.YtjdmaindoohmkaaGreatDoor
open Go.RowKit

def isBl (c : UInt8) : Bool := c == 9 || c == 10 || c == 13 || c == 32
def isDig (c : UInt8) : Bool := decide (48 ≤ c.toNat) && decide (c.toNat ≤ 57)
def isLet (c : UInt8) : Bool := decide (97 ≤ c.toNat) && decide (c.toNat ≤ 122)
def isNam (c : UInt8) : Bool := isLet c || (isDig c || c == 95)
def isHex (c : UInt8) : Bool := isDig c || (decide (97 ≤ c.toNat) && decide (c.toNat ≤ 102))
def hexV (c : UInt8) : Nat := if isDig c = true then c.toNat - 48 else c.toNat - 87
def signs : List (List UInt8) := [[38, 38], [124, 124], [61, 61], [33, 61], [60, 61], [62, 61], [61], [60], [62], [43], [45], [42], [47], [37], [38], [124], [33], [40], [41], [91], [93], [123], [125], [59], [44], [46]]
def maxInt : Nat := 9223372036854775807

/-- A token that a text begins with: what it is, how many bytes it has; the error. -/
structure Fd where
  kind : Nat
  text : List UInt8
  n : Nat
  used : Nat
  err : Nat
def bad (e : Nat) : Fd := ⟨0, [], 0, 0, e⟩
def noteL (l : List UInt8) : Fd := if (readL 1 l).2.2 = 0 then ⟨6, (readL 1 l).1, 0, (readL 1 l).2.1, 0⟩ else bad (readL 1 l).2.2
def intL (ds : List UInt8) : Fd := if maxInt < valL ds then bad 6 else ⟨3, [], valL ds, ds.length, 0⟩
def nameK (t : List UInt8) : Nat := if isIn ⟨t.toArray⟩ (wordsOf 1) = true then 2 else 1
/-- Does another part of a name follow? -/
def more : List UInt8 → Bool
  | 36 :: c :: _ => isLet c
  | _ => false
/-- The bytes of a name that a text begins with. -/
def nmL : List UInt8 → List UInt8
  | [] => []
  | c :: r => if isNam c = true then c :: nmL r else if more (c :: r) = true then c :: nmL r else []
/-- Has one of a name's parts more than 32 bytes? (p: of the part that stands here so many went ahead) -/
def longP : Nat → List UInt8 → Bool
  | _, [] => false
  | p, c :: r => if (c == 36) = true then longP 0 r else decide (32 ≤ p) || longP (p + 1) r
def nameL (nm : List UInt8) : Fd := if longP 0 nm = true then bad 3 else ⟨nameK nm, nm, 0, nm.length, 0⟩
def visB (b : UInt8) : Bool := decide (32 ≤ b.toNat) && decide (b.toNat ≤ 126) && !(b == 39) && !(b == 92)
/-- A char by its number: two digits and a quote. -/
def hexL (l : List UInt8) : Fd := if (isHex (l.getD 3 0) && isHex (l.getD 4 0) && l.getD 5 0 == 39) = true then ⟨4, [], hexV (l.getD 3 0) * 16 + hexV (l.getD 4 0), 6, 0⟩ else bad 7
def quote1 (l : List UInt8) : Fd := if (visB (l.getD 1 0) && l.getD 2 0 == 39) = true then ⟨4, [], (l.getD 1 0).toNat, 3, 0⟩ else bad 7
def quoteL (l : List UInt8) : Fd :=
  if Lib.hasPrefix l [39, 92, 39, 39] = true then ⟨4, [], 39, 4, 0⟩
  else if Lib.hasPrefix l [39, 92, 92, 39] = true then ⟨4, [], 92, 4, 0⟩
  else if Lib.hasPrefix l [39, 92, 120] = true then hexL l
  else quote1 l
def signL (l : List UInt8) : Fd := match signs.find? (fun g => Lib.hasPrefix l g) with
  | some g => ⟨5, g, 0, g.length, 0⟩
  | none => bad 5
/-- The token at the beginning of a text that begins with no blank. -/
def tokL : List UInt8 → Fd
  | [] => bad 0
  | c :: r =>
    if begs 1 (c :: r) = true then noteL (c :: r)
    else if isDig c = true then intL ((c :: r).takeWhile isDig)
    else if isLet c = true then nameL (nmL (c :: r))
    else if (c == 39) = true then quoteL (c :: r)
    else signL (c :: r)
theorem tokL_cons (c : UInt8) (r : List UInt8) : tokL (c :: r) = if begs 1 (c :: r) = true then noteL (c :: r)
    else if isDig c = true then intL ((c :: r).takeWhile isDig)
    else if isLet c = true then nameL (nmL (c :: r))
    else if (c == 39) = true then quoteL (c :: r)
    else signL (c :: r) := rfl

/-- A token, whole. -/
structure Tk where
  kind : Nat
  text : List UInt8
  n : Nat
  same : Bool
  pos : Nat
  line : Nat
  col : Nat
def mkT (s : ByteArray) (f : Fd) (k : Nat) (last : Int) : Tk := ⟨f.kind, f.text, f.n, decide ((lineOf s k : Int) = last), k, lineOf s k, colOf s k⟩
def bareT (t : Tk) : Tk := ⟨t.kind, t.text, t.n, false, 0, 0, 0⟩
/-- All tokens, or what is wrong, and where. -/
structure Res where
  code : Nat
  pos : Nat
  toks : List Tk
/-- The first place from k on that holds no blank. -/
def blEnd (s : ByteArray) (k : Nat) : Nat := k + ((s.data.toList.drop k).takeWhile isBl).length
def fdAt (s : ByteArray) (k : Nat) : Fd := tokL (s.data.toList.drop k)
def lexN (s : ByteArray) : Nat → Nat → Int → List Tk → Res
  | 0, _, _, _ => ⟨0, 0, []⟩
  | m + 1, k, last, acc =>
    if (fdAt s (blEnd s k)).err ≠ 0 then ⟨(fdAt s (blEnd s k)).err, blEnd s k, []⟩
    else if (fdAt s (blEnd s k)).kind = 0 then ⟨0, 0, acc ++ [mkT s (fdAt s (blEnd s k)) (blEnd s k) last]⟩
    else lexN s m (blEnd s k + (fdAt s (blEnd s k)).used) (lineOf s (blEnd s k + (fdAt s (blEnd s k)).used)) (acc ++ [mkT s (fdAt s (blEnd s k)) (blEnd s k) last])
theorem lexN_succ (s : ByteArray) (m k : Nat) (last : Int) (acc : List Tk) : lexN s (m + 1) k last acc =
    if (fdAt s (blEnd s k)).err ≠ 0 then ⟨(fdAt s (blEnd s k)).err, blEnd s k, []⟩
    else if (fdAt s (blEnd s k)).kind = 0 then ⟨0, 0, acc ++ [mkT s (fdAt s (blEnd s k)) (blEnd s k) last]⟩
    else lexN s m (blEnd s k + (fdAt s (blEnd s k)).used) (lineOf s (blEnd s k + (fdAt s (blEnd s k)).used)) (acc ++ [mkT s (fdAt s (blEnd s k)) (blEnd s k) last]) := rfl
def lexAll (s : ByteArray) : Res := if 65536 < s.size then ⟨3, 0, []⟩ else lexN s (s.size + 1) 0 (-1) []

/- What a token's length is. -/
theorem tw_len {p : UInt8 → Bool} (l : List UInt8) : (l.takeWhile p).length ≤ l.length := by
  have := congrArg List.length (List.takeWhile_append_dropWhile (p := p) (l := l))
  rw [List.length_append] at this
  omega
theorem tw_pos {p : UInt8 → Bool} {c : UInt8} {r : List UInt8} (h : p c = true) : 1 ≤ ((c :: r).takeWhile p).length := by
  rw [List.takeWhile_cons, if_pos h]; simp
theorem nm_len (l : List UInt8) : (nmL l).length ≤ l.length := by
  induction l with
  | nil => simp [nmL]
  | cons c r ih =>
    rw [nmL]
    split
    · simp; omega
    · split
      · simp; omega
      · simp
theorem nm_pos {c : UInt8} {r : List UInt8} (h : isNam c = true) : 1 ≤ (nmL (c :: r)).length := by
  rw [nmL, if_pos h]; simp
theorem hp_len {l g : List UInt8} (h : Lib.hasPrefix l g = true) : g.length ≤ l.length := (List.isPrefixOf_iff_prefix.1 h).length_le
theorem rd_use (d : Int) (hd : d = 1) : ∀ l sh acc u, (rd d l sh acc u).2.2 = 0 → u + 2 ≤ (rd d l sh acc u).2.1 ∧ (rd d l sh acc u).2.1 ≤ u + l.length ∧ (rd d l sh acc u).1.length + 2 + u ≤ acc.length + (rd d l sh acc u).2.1 := by
  subst hd
  intro l
  induction l with
  | nil => intro sh acc u h; cases sh <;> simp [rd] at h
  | cons c r ih =>
    intro sh acc u h
    cases sh with
    | true =>
      simp only [rd] at h ⊢
      split at h
      · rename_i h1
        rw [if_pos h1]
        split at h
        · simp at h
        · rename_i h2
          rw [if_neg h2]
          have := ih _ _ _ h
          simp at this ⊢; omega
      · simp at h
    | false =>
      simp only [rd] at h ⊢
      split at h
      · rename_i h1
        rw [if_pos h1]
        have := hp_len h1
        simp [clL] at this ⊢; omega
      · rename_i h1
        rw [if_neg h1]
        split at h
        · rename_i h2; rw [if_pos h2]
          have := ih _ _ _ h
          simp at this ⊢; omega
        · rename_i h2; rw [if_neg h2]
          split at h
          · simp at h
          · rename_i h3; rw [if_neg h3]
            split at h
            · simp at h
            · rename_i h4; rw [if_neg h4]
              have := ih _ _ _ h
              simp at this ⊢; omega
theorem beg_two {l : List UInt8} (h : begs 1 l = true) : ∃ r, l = 47 :: 42 :: r := by
  have := List.isPrefixOf_iff_prefix.1 h
  obtain ⟨r, hr⟩ := this
  exact ⟨r, hr.symm⟩
theorem beg_of (r : List UInt8) : begs 1 (47 :: 42 :: r) = true := by simp [begs, Lib.hasPrefix, opL]
theorem read_cons (r : List UInt8) : readL 1 (47 :: 42 :: r) = rd 1 r false [] 2 := by
  unfold readL
  rw [show diaB 1 = true from rfl, beg_of]
  simp [opL]
theorem note_use (r : List UInt8) (h : (noteL (47 :: 42 :: r)).err = 0) : 4 ≤ (noteL (47 :: 42 :: r)).used ∧ (noteL (47 :: 42 :: r)).used ≤ r.length + 2 ∧ (noteL (47 :: 42 :: r)).text.length + 4 ≤ (noteL (47 :: 42 :: r)).used ∧ (noteL (47 :: 42 :: r)).kind = 6 := by
  unfold noteL at h ⊢
  rw [read_cons] at h ⊢
  split at h
  · rename_i h1
    have := rd_use 1 rfl r false [] 2 h1
    rw [if_pos h1]
    simp at this ⊢; omega
  · rename_i h1; exact absurd h h1
theorem signs_len : ∀ g ∈ signs, 1 ≤ g.length ∧ g.length ≤ 2 := by decide
theorem getD_lt {l : List UInt8} {i : Nat} (h : (l.getD i 0 == (39 : UInt8)) = true) : i < l.length := by
  rcases Nat.lt_or_ge i l.length with g | g
  · exact g
  · rw [List.getD_eq_getElem?_getD, List.getElem?_eq_none g] at h; exact absurd h (by decide)
theorem quote1_use (l : List UInt8) (h : (quote1 l).err = 0) : quote1 l = ⟨4, [], (l.getD 1 0).toNat, 3, 0⟩ ∧ 3 ≤ l.length := by
  unfold quote1 at h ⊢
  split at h
  · rename_i h1
    rw [if_pos h1]
    rw [Bool.and_eq_true] at h1
    exact ⟨rfl, getD_lt h1.2⟩
  · cases h
theorem hexL_use (l : List UInt8) (h : (hexL l).err = 0) : hexL l = ⟨4, [], hexV (l.getD 3 0) * 16 + hexV (l.getD 4 0), 6, 0⟩ ∧ 6 ≤ l.length := by
  unfold hexL at h ⊢
  split at h
  · rename_i h1
    rw [if_pos h1]
    rw [Bool.and_eq_true] at h1
    exact ⟨rfl, getD_lt h1.2⟩
  · cases h
theorem quote_use (l : List UInt8) (h : (quoteL l).err = 0) : 1 ≤ (quoteL l).used ∧ (quoteL l).used ≤ l.length ∧ (quoteL l).kind = 4 ∧ (quoteL l).text = [] := by
  unfold quoteL at h ⊢
  split
  · rename_i h5; have := hp_len h5; simp at this ⊢; omega
  · rename_i h5
    rw [if_neg h5] at h
    split
    · rename_i h6; have := hp_len h6; simp at this ⊢; omega
    · rename_i h6
      rw [if_neg h6] at h
      split
      · rename_i h7
        rw [if_pos h7] at h
        obtain ⟨e, hl⟩ := hexL_use l h
        rw [e]; simp; omega
      · rename_i h7
        rw [if_neg h7] at h
        obtain ⟨e, hl⟩ := quote1_use l h
        rw [e]; simp; omega
/-- A token has a byte at least, and no more than there are. -/
theorem tok_use (c : UInt8) (r : List UInt8) (h : (tokL (c :: r)).err = 0) : 1 ≤ (tokL (c :: r)).used ∧ (tokL (c :: r)).used ≤ r.length + 1 ∧ 1 ≤ (tokL (c :: r)).kind ∧ (tokL (c :: r)).kind ≤ 6 ∧ (tokL (c :: r)).text.length ≤ (tokL (c :: r)).used := by
  rw [tokL_cons] at h ⊢
  split
  · rename_i h1
    rw [if_pos h1] at h
    obtain ⟨r2, hr⟩ := beg_two h1
    rw [hr] at h ⊢
    have := note_use r2 h
    have hl := congrArg List.length hr
    simp at hl
    omega
  · rename_i h1
    rw [if_neg h1] at h
    split
    · rename_i h2
      rw [if_pos h2] at h
      have a1 := tw_pos (r := r) h2
      have a2 := tw_len (p := isDig) (c :: r)
      unfold intL at h ⊢
      split
      · rename_i h3; rw [if_pos h3] at h; simp [bad] at h
      · simp at a2 ⊢; omega
    · rename_i h2
      rw [if_neg h2] at h
      split
      · rename_i h3
        rw [if_pos h3] at h
        have a1 := nm_pos (c := c) (r := r) (by unfold isNam; rw [h3]; rfl)
        have a2 := nm_len (c :: r)
        unfold nameL at h ⊢
        split
        · rename_i h4; rw [if_pos h4] at h; simp [bad] at h
        · unfold nameK; simp at a2 ⊢; split <;> simp <;> omega
      · rename_i h3
        rw [if_neg h3] at h
        split
        · rename_i h4
          rw [if_pos h4] at h
          have := quote_use (c :: r) h
          simp at this
          rw [this.2.2.1, this.2.2.2]
          simp; omega
        · rename_i h4
          rw [if_neg h4] at h
          unfold signL at h ⊢
          split
          · rename_i g hg
            have h6 := signs_len g (List.mem_of_find?_eq_some hg)
            have h7 := hp_len (List.find?_some hg)
            simp at h7 ⊢; omega
          · rename_i hg; rw [hg] at h; simp [bad] at h
theorem tok_nil : tokL [] = bad 0 := rfl
theorem tok_kind {l : List UInt8} (hk : (tokL l).kind ≠ 0) : l ≠ [] := by
  intro e; rw [e] at hk; exact hk rfl
theorem blEnd_bd (s : ByteArray) (k : Nat) (h : k ≤ s.size) : k ≤ blEnd s k ∧ blEnd s k ≤ s.size := by
  unfold blEnd
  have := tw_len (p := isBl) (s.data.toList.drop k)
  rw [List.length_drop, len_size] at this
  omega
theorem drop_cons {s : ByteArray} {k : Nat} (h : k < s.size) : ∃ c r, s.data.toList.drop k = c :: r ∧ r.length + 1 = s.size - k := by
  refine ⟨bt s k, s.data.toList.drop (k + 1), drop_bt s k h, ?_⟩
  rw [List.length_drop, len_size]; omega
theorem fd_use (s : ByteArray) (k : Nat) (h : k < s.size) (he : (fdAt s k).err = 0) : 1 ≤ (fdAt s k).used ∧ k + (fdAt s k).used ≤ s.size ∧ 1 ≤ (fdAt s k).kind := by
  obtain ⟨c, r, hc, hl⟩ := drop_cons h
  unfold fdAt at he ⊢
  rw [hc] at he ⊢
  have := tok_use c r he
  omega
theorem fd_end (s : ByteArray) (k : Nat) (h : ¬ k < s.size) : fdAt s k = bad 0 := by
  unfold fdAt; rw [drop_end s k h]; rfl
theorem fd_kind (s : ByteArray) (k : Nat) (hk : (fdAt s k).kind ≠ 0) : k < s.size := by
  rcases Nat.lt_or_ge k s.size with h | h
  · exact h
  · rw [fd_end s k (by omega)] at hk; exact absurd rfl hk
end Go.Proofs.YtjdmaindoohmkaaGreatDoor
