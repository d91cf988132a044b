/-
  Tokens of Pas, plainly: the token that a text begins with; all of them.
-/
import Derived.Test.YtjdmaindoohmkaaDoorNt
import Derived.Test.YtjdmaindoohmkaaDoorWd
import Derived.Test.YtjdmaindoohmkaaDoorDgs
import Derived.Lib.Case
namespace Go.Proofs.YtjdmaindoohmkaaDoor.P
open Go.RowKit

def isBl (c : UInt8) : Bool := c == 9 || c == 10 || c == 13 || c == 32
def isDig (c : UInt8) : Bool := decide (48 ≤ c.toNat) && decide (c.toNat ≤ 57)
def isUp (c : UInt8) : Bool := decide (65 ≤ c.toNat) && decide (c.toNat ≤ 90)
def isLow (c : UInt8) : Bool := decide (97 ≤ c.toNat) && decide (c.toNat ≤ 122)
def isLet (c : UInt8) : Bool := isLow c || isUp c
def isNam (c : UInt8) : Bool := isLet c || (isDig c || c == 95)
def signs : List (List UInt8) := [[58, 61], [60, 62], [60, 61], [62, 61], [61], [60], [62], [43], [45], [42], [40], [41], [91], [93], [59], [58], [44], [46]]
def maxInt : Nat := 9223372036854775807

/-- A token that a text begins with: what it is, how many bytes it has; the error. -/
structure Fd where
  kind : Nat
  text : List UInt8
  n : Nat
  used : Nat
  err : Nat
def bad (e : Nat) : Fd := ⟨0, [], 0, 0, e⟩
def noteL (l : List UInt8) : Fd := if (readL 0 l).2.2 = 0 then ⟨6, (readL 0 l).1, 0, (readL 0 l).2.1, 0⟩ else bad (readL 0 l).2.2
def intL (ds : List UInt8) : Fd := if maxInt < valL ds then bad 6 else ⟨3, [], valL ds, ds.length, 0⟩
def nameK (t : List UInt8) : Nat := if isIn ⟨t.toArray⟩ (wordsOf 0) = true then 2 else 1
def nameL (nm : List UInt8) : Fd := if 32 < nm.length then bad 3 else ⟨nameK (nm.map Lib.lowerB), nm.map Lib.lowerB, 0, nm.length, 0⟩
def visB (b : UInt8) : Bool := decide (32 ≤ b.toNat) && decide (b.toNat ≤ 126) && !(b == 39)
def quoteL (l : List UInt8) : Fd :=
  if Lib.hasPrefix l [39, 39, 39, 39] = true then ⟨4, [], 39, 4, 0⟩
  else if (visB (l.getD 1 0) && l.getD 2 0 == 39) = true then ⟨4, [], (l.getD 1 0).toNat, 3, 0⟩ else bad 7
def hashL (ds : List UInt8) : Fd := if (decide (ds.length = 0) || decide (3 < ds.length) || decide (255 < valL ds)) = true then bad 7 else ⟨4, [], valL ds, 1 + ds.length, 0⟩
def signL (l : List UInt8) : Fd := match signs.find? (fun g => Lib.hasPrefix l g) with
  | some g => ⟨5, g, 0, g.length, 0⟩
  | none => bad 5
/-- The token at the beginning of a text that begins with no blank. -/
def tokL : List UInt8 → Fd
  | [] => bad 0
  | c :: r =>
    if (c == 123) = true then noteL (c :: r)
    else if isDig c = true then intL ((c :: r).takeWhile isDig)
    else if isLet c = true then nameL ((c :: r).takeWhile isNam)
    else if (c == 39) = true then quoteL (c :: r)
    else if (c == 35) = true then hashL (r.takeWhile isDig)
    else signL (c :: r)
theorem tokL_cons (c : UInt8) (r : List UInt8) : tokL (c :: r) = if (c == 123) = true then noteL (c :: r)
    else if isDig c = true then intL ((c :: r).takeWhile isDig)
    else if isLet c = true then nameL ((c :: r).takeWhile isNam)
    else if (c == 39) = true then quoteL (c :: r)
    else if (c == 35) = true then hashL (r.takeWhile isDig)
    else signL (c :: r) := rfl

/-- A token, whole. -/
structure Tk where
  kind : Nat
  text : List UInt8
  n : Nat
  same : Bool
  pos : Nat
  line : Nat
  col : Nat
def mkT (s : ByteArray) (f : Fd) (k : Nat) (last : Int) : Tk := ⟨f.kind, f.text, f.n, decide ((lineOf s k : Int) = last), k, lineOf s k, colOf s k⟩
def bareT (t : Tk) : Tk := ⟨t.kind, t.text, t.n, false, 0, 0, 0⟩
/-- All tokens, or what is wrong, and where. -/
structure Res where
  code : Nat
  pos : Nat
  toks : List Tk
/-- The first place from k on that holds no blank. -/
def blEnd (s : ByteArray) (k : Nat) : Nat := k + ((s.data.toList.drop k).takeWhile isBl).length
def fdAt (s : ByteArray) (k : Nat) : Fd := tokL (s.data.toList.drop k)
def lexN (s : ByteArray) : Nat → Nat → Int → List Tk → Res
  | 0, _, _, _ => ⟨0, 0, []⟩
  | m + 1, k, last, acc =>
    if (fdAt s (blEnd s k)).err ≠ 0 then ⟨(fdAt s (blEnd s k)).err, blEnd s k, []⟩
    else if (fdAt s (blEnd s k)).kind = 0 then ⟨0, 0, acc ++ [mkT s (fdAt s (blEnd s k)) (blEnd s k) last]⟩
    else lexN s m (blEnd s k + (fdAt s (blEnd s k)).used) (lineOf s (blEnd s k + (fdAt s (blEnd s k)).used)) (acc ++ [mkT s (fdAt s (blEnd s k)) (blEnd s k) last])
theorem lexN_succ (s : ByteArray) (m k : Nat) (last : Int) (acc : List Tk) : lexN s (m + 1) k last acc =
    if (fdAt s (blEnd s k)).err ≠ 0 then ⟨(fdAt s (blEnd s k)).err, blEnd s k, []⟩
    else if (fdAt s (blEnd s k)).kind = 0 then ⟨0, 0, acc ++ [mkT s (fdAt s (blEnd s k)) (blEnd s k) last]⟩
    else lexN s m (blEnd s k + (fdAt s (blEnd s k)).used) (lineOf s (blEnd s k + (fdAt s (blEnd s k)).used)) (acc ++ [mkT s (fdAt s (blEnd s k)) (blEnd s k) last]) := rfl
def lexAll (s : ByteArray) : Res := if 65536 < s.size then ⟨3, 0, []⟩ else lexN s (s.size + 1) 0 (-1) []

/- What a token's length is. -/
theorem tw_len {p : UInt8 → Bool} (l : List UInt8) : (l.takeWhile p).length ≤ l.length := by
  have := congrArg List.length (List.takeWhile_append_dropWhile (p := p) (l := l))
  rw [List.length_append] at this
  omega
theorem tw_pos {p : UInt8 → Bool} {c : UInt8} {r : List UInt8} (h : p c = true) : 1 ≤ ((c :: r).takeWhile p).length := by
  rw [List.takeWhile_cons, if_pos h]; simp
theorem hp_len {l g : List UInt8} (h : Lib.hasPrefix l g = true) : g.length ≤ l.length := (List.isPrefixOf_iff_prefix.1 h).length_le
theorem rd_use (d : Int) (hd : d = 0) : ∀ l sh acc u, (rd d l sh acc u).2.2 = 0 → u + 1 ≤ (rd d l sh acc u).2.1 ∧ (rd d l sh acc u).2.1 ≤ u + l.length ∧ (rd d l sh acc u).1.length + 1 + u ≤ acc.length + (rd d l sh acc u).2.1 := by
  subst hd
  intro l
  induction l with
  | nil => intro sh acc u h; cases sh <;> simp [rd] at h
  | cons c r ih =>
    intro sh acc u h
    cases sh with
    | true =>
      simp only [rd] at h ⊢
      split at h
      · rename_i h1
        rw [if_pos h1]
        split at h
        · simp at h
        · rename_i h2
          rw [if_neg h2]
          have := ih _ _ _ h
          simp at this ⊢; omega
      · simp at h
    | false =>
      simp only [rd] at h ⊢
      split at h
      · rename_i h1; rw [if_pos h1]; simp [clL]; omega
      · rename_i h1
        rw [if_neg h1]
        split at h
        · rename_i h2; rw [if_pos h2]
          have := ih _ _ _ h
          simp at this ⊢; omega
        · rename_i h2; rw [if_neg h2]
          split at h
          · simp at h
          · rename_i h3; rw [if_neg h3]
            split at h
            · simp at h
            · rename_i h4; rw [if_neg h4]
              have := ih _ _ _ h
              simp at this ⊢; omega
theorem read_cons (r : List UInt8) : readL 0 (123 :: r) = rd 0 r false [] 1 := by
  unfold readL
  rw [show diaB 0 = true from rfl, show begs 0 (123 :: r) = true by simp [begs, Lib.hasPrefix, opL]]
  simp [opL]
theorem note_use (r : List UInt8) (h : (noteL (123 :: r)).err = 0) : 2 ≤ (noteL (123 :: r)).used ∧ (noteL (123 :: r)).used ≤ r.length + 1 ∧ (noteL (123 :: r)).text.length + 2 ≤ (noteL (123 :: r)).used ∧ (noteL (123 :: r)).kind = 6 := by
  unfold noteL at h ⊢
  rw [read_cons] at h ⊢
  split at h
  · rename_i h1
    have := rd_use 0 rfl r false [] 1 h1
    rw [if_pos h1]
    simp at this ⊢; omega
  · rename_i h1; exact absurd h h1
theorem signs_len : ∀ g ∈ signs, 1 ≤ g.length ∧ g.length ≤ 2 := by decide
theorem quote_hp {r : List UInt8} (h : ((39 :: r).getD 2 0 == (39 : UInt8)) = true) : 2 ≤ r.length := by
  match r, h with
  | [], h => exact absurd h (by decide)
  | [_], h => exact absurd h (by simp)
  | _ :: _ :: _, _ => simp
/-- A token has a byte at least, and no more than there are. -/
theorem tok_use (c : UInt8) (r : List UInt8) (h : (tokL (c :: r)).err = 0) : 1 ≤ (tokL (c :: r)).used ∧ (tokL (c :: r)).used ≤ r.length + 1 ∧ 1 ≤ (tokL (c :: r)).kind ∧ (tokL (c :: r)).kind ≤ 6 ∧ (tokL (c :: r)).text.length ≤ (tokL (c :: r)).used := by
  rw [tokL_cons] at h ⊢
  split
  · rename_i h1
    rw [if_pos h1] at h
    have hc : c = 123 := by simpa using h1
    subst hc
    have := note_use r h
    omega
  · rename_i h1
    rw [if_neg h1] at h
    split
    · rename_i h2
      rw [if_pos h2] at h
      have a1 := tw_pos (r := r) h2
      have a2 := tw_len (p := isDig) (c :: r)
      unfold intL at h ⊢
      split
      · rename_i h3; rw [if_pos h3] at h; simp [bad] at h
      · simp at a2 ⊢; omega
    · rename_i h2
      rw [if_neg h2] at h
      split
      · rename_i h3
        rw [if_pos h3] at h
        have a1 := tw_pos (p := isNam) (c := c) (r := r) (by unfold isNam; rw [h3]; rfl)
        have a2 := tw_len (p := isNam) (c :: r)
        unfold nameL at h ⊢
        split
        · rename_i h4; rw [if_pos h4] at h; simp [bad] at h
        · unfold nameK; simp at a2 ⊢; split <;> simp <;> omega
      · rename_i h3
        rw [if_neg h3] at h
        split
        · rename_i h4
          rw [if_pos h4] at h
          have hc : c = 39 := by simpa using h4
          subst hc
          unfold quoteL at h ⊢
          split
          · rename_i h5
            have := hp_len h5
            simp at this ⊢; omega
          · rename_i h5
            rw [if_neg h5] at h
            split
            · rename_i h6
              rw [Bool.and_eq_true] at h6
              have := quote_hp h6.2
              simp; omega
            · rename_i h6; rw [if_neg h6] at h; simp [bad] at h
        · rename_i h4
          rw [if_neg h4] at h
          split
          · rename_i h5
            rw [if_pos h5] at h
            have a2 := tw_len (p := isDig) r
            unfold hashL at h ⊢
            split
            · rename_i h6; rw [if_pos h6] at h; simp [bad] at h
            · simp; omega
          · rename_i h5
            rw [if_neg h5] at h
            unfold signL at h ⊢
            split
            · rename_i g hg
              have h6 := signs_len g (List.mem_of_find?_eq_some hg)
              have h7 := hp_len (List.find?_some hg)
              simp at h7 ⊢; omega
            · rename_i hg; rw [hg] at h; simp [bad] at h
theorem tok_nil : tokL [] = bad 0 := rfl
theorem tok_kind {l : List UInt8} (hk : (tokL l).kind ≠ 0) : l ≠ [] := by
  intro e; rw [e] at hk; exact hk rfl
theorem blEnd_bd (s : ByteArray) (k : Nat) (h : k ≤ s.size) : k ≤ blEnd s k ∧ blEnd s k ≤ s.size := by
  unfold blEnd
  have := tw_len (p := isBl) (s.data.toList.drop k)
  rw [List.length_drop, len_size] at this
  omega
theorem drop_cons {s : ByteArray} {k : Nat} (h : k < s.size) : ∃ c r, s.data.toList.drop k = c :: r ∧ r.length + 1 = s.size - k := by
  refine ⟨bt s k, s.data.toList.drop (k + 1), drop_bt s k h, ?_⟩
  rw [List.length_drop, len_size]; omega
theorem fd_use (s : ByteArray) (k : Nat) (h : k < s.size) (he : (fdAt s k).err = 0) : 1 ≤ (fdAt s k).used ∧ k + (fdAt s k).used ≤ s.size ∧ 1 ≤ (fdAt s k).kind := by
  obtain ⟨c, r, hc, hl⟩ := drop_cons h
  unfold fdAt at he ⊢
  rw [hc] at he ⊢
  have := tok_use c r he
  omega
theorem fd_end (s : ByteArray) (k : Nat) (h : ¬ k < s.size) : fdAt s k = bad 0 := by
  unfold fdAt; rw [drop_end s k h]; rfl
theorem fd_kind (s : ByteArray) (k : Nat) (hk : (fdAt s k).kind ≠ 0) : k < s.size := by
  rcases Nat.lt_or_ge k s.size with h | h
  · exact h
  · rw [fd_end s k (by omega)] at hk; exact absurd rfl hk
end Go.Proofs.YtjdmaindoohmkaaDoor.P
