/-
  Texts of this proof, put together.
-/
import Derived.Test.YtciijpahjjoppaaGreatRows
import Derived.WalkKit
import Derived.WalkSpells
import Derived.WalkLawsBesides
import Derived.BigQuiet
import Derived.Deep.QuietTactic
import Derived.Deep.Draws
import Derived.Deep.Slices
import Derived.Lib.Hide
import Derived.OwnWalk
import Derived.Maps.AppendAt
import Derived.IntWalk
import Derived.Below
import Derived.Laws.IdiomCopy
import Derived.Laws.Cells
import Derived.Laws.Alloc2
import Derived.Shelf.SlicesQ.Load
import Derived.ProofKit
import Derived.OpenShut
import Derived.ShutString
import Derived.ChangeOld
import Derived.Deep.DeepHandedRow
import Derived.Deep.MidRow
import Derived.Shelf.Strings.Builder1
import Derived.Shelf.Strings.Builder2
import Derived.Shelf.Strings.OnBuilder
import Derived.Shelf.Strings.BuilderF
import Derived.Shelf.Strings.BuilderK
import Derived.Shelf.Strings.BuilderRune
import Derived.Shelf.Utf8.AppendRune
import Derived.Shelf.Strings.Search1
import Derived.Shelf.Strings.Search2
import Derived.Shelf.Strings.Cut
import Derived.Shelf.LaysM
import Derived.Shelf.Strings.Shaped
import Derived.Shelf.Strings.Prefix
import Derived.Test.YtciijpahjjoppaaGreatProg
import Derived.Lib.ItoaNum
import Derived.Lib.Bytealg
section
namespace Go.Proofs.YtciijpahjjoppaaGreat
open Go.RowKit Go.ChangeShapes Go.WideShapes Go.Deep

theorem heap_lt {w : World} {b : Nat} {o : Obj} (h : w.heap[b]? = some o) : b < w.heap.size := by
  rcases Nat.lt_or_ge b w.heap.size with g | g
  · exact g
  · rw [Array.getElem?_eq_none g] at h; cases h
theorem heap_new (w : World) (o : Obj) : (w.alloc o).heap[w.heap.size]? = some o := by
  show (w.heap.push o)[w.heap.size]? = _
  simp
theorem cell_eq {w w' : World} {b o : Nat} (h : w'.heap[b]? = w.heap[b]?) : w'.cell? ⟨b, o, none⟩ = w.cell? ⟨b, o, none⟩ := by
  unfold World.cell?
  simp only [h]

/-- A cell's datum. -/
inductive D where
  | int (n : Int)
  | str (s : ByteArray)
  | bool (b : Bool)
  | row (l : List (List D))

/-- A value that reads as a datum. -/
inductive At (w : World) : Value → D → Prop where
  | int (n : Int) : -9223372036854775808 ≤ n → n ≤ 9223372036854775807 → At w (.int .i64 n) (.int n)
  | str (s : ByteArray) : s.size ≤ maxLen → At w (.string s) (.str s)
  | bool (b : Bool) : At w (.bool b) (.bool b)
  | nil (a : Option Addr) (cap : Nat) : cap ≤ maxLen → At w (.slice a 0 cap) (.row [])
  | row (b o len cap k : Nat) (l : List (List D)) (cs : Nat → List Value) : l.length = len → len ≤ cap → cap ≤ maxLen → b < w.heap.size →
      (∀ j, j < len → (cs j).length = k) → (∀ (j : Nat) (ds : List D), l[j]? = some ds → ds.length = k) →
      (∀ (j i : Nat) (v : Value), j < len → (cs j)[i]? = some v → w.cell? ⟨b, o + j * k + i, none⟩ = some v) →
      (∀ (j i : Nat) (ds : List D) (v : Value) (d : D), l[j]? = some ds → (cs j)[i]? = some v → ds[i]? = some d → At w v d) →
      At w (.slice (some ⟨b, o, none⟩) len cap) (.row l)
def AllAt (w : World) : List Value → List D → Prop
  | [], [] => True
  | v :: vs, d :: ds => At w v d ∧ AllAt w vs ds
  | _, _ => False

theorem AllAt.len {w : World} : ∀ {vs : List Value} {ds : List D}, AllAt w vs ds → vs.length = ds.length
  | [], [], _ => rfl
  | v :: vs, d :: ds, h => by simp [AllAt.len h.2]
  | [], _ :: _, h => h.elim
  | _ :: _, [], h => h.elim
theorem allAt_of {w : World} : ∀ {vs : List Value} {ds : List D}, vs.length = ds.length → (∀ (i : Nat) (v : Value) (d : D), vs[i]? = some v → ds[i]? = some d → At w v d) → AllAt w vs ds
  | [], [], _, _ => trivial
  | v :: vs, d :: ds, hl, h => ⟨h 0 v d rfl rfl, allAt_of (by simpa using hl) fun i v' d' h1 h2 => h (i + 1) v' d' (by simpa using h1) (by simpa using h2)⟩
  | [], _ :: _, hl, _ => by simp at hl
  | _ :: _, [], hl, _ => by simp at hl
theorem AllAt.get {w : World} : ∀ {vs : List Value} {ds : List D}, AllAt w vs ds → ∀ (i : Nat) (v : Value) (d : D), vs[i]? = some v → ds[i]? = some d → At w v d
  | [], [], _, i, v, d, h1, _ => by simp at h1
  | v :: vs, d :: ds, h, 0, _, _, h1, h2 => by simp at h1 h2; subst h1 h2; exact h.1
  | v :: vs, d :: ds, h, i + 1, v', d', h1, h2 => AllAt.get h.2 i v' d' (by simpa using h1) (by simpa using h2)
  | [], _ :: _, h, _, _, _, _, _ => h.elim
  | _ :: _, [], h, _, _, _, _, _ => h.elim
theorem AllAt.append {w : World} : ∀ {vs ws : List Value} {ds es : List D}, AllAt w vs ds → AllAt w ws es → AllAt w (vs ++ ws) (ds ++ es)
  | [], _, [], _, _, h => h
  | _ :: _, _, _ :: _, _, h, h' => ⟨h.1, AllAt.append h.2 h'⟩
  | [], _, _ :: _, _, h, _ => h.elim
  | _ :: _, _, [], _, h, _ => h.elim

theorem At.stays {w w' : World} {v : Value} {d : D} (h : At w v d) (hb : Below w.heap.size w w') : At w' v d := by
  induction h with
  | int n h1 h2 => exact .int n h1 h2
  | str s h => exact .str s h
  | bool b => exact .bool b
  | nil a cap h => exact .nil a cap h
  | row b o len cap k l cs h1 h2 h3 h4 h5 h6 h7 _ ih =>
    exact .row b o len cap k l cs h1 h2 h3 (Nat.lt_of_lt_of_le h4 hb.size) h5 h6 (fun j i v hj hv => (hb.cell (p := ⟨b, o + j * k + i, none⟩) h4).trans (h7 j i v hj hv)) fun j i ds v d h1 h2 h3 => ih j i ds v d h1 h2 h3
theorem AllAt.stays {w w' : World} : ∀ {vs : List Value} {ds : List D}, AllAt w vs ds → Below w.heap.size w w' → AllAt w' vs ds
  | [], [], _, _ => trivial
  | _ :: _, _ :: _, h, hb => ⟨h.1.stays hb, AllAt.stays h.2 hb⟩
  | [], _ :: _, h, _ => h.elim
  | _ :: _, [], h, _ => h.elim

theorem At.int_inv {w : World} {v : Value} {n : Int} (h : At w v (.int n)) : v = .int .i64 n ∧ -9223372036854775808 ≤ n ∧ n ≤ 9223372036854775807 := by
  cases h with
  | int _ h1 h2 => exact ⟨rfl, h1, h2⟩
theorem At.str_inv {w : World} {v : Value} {s : ByteArray} (h : At w v (.str s)) : v = .string s ∧ s.size ≤ maxLen := by
  cases h with
  | str _ h1 => exact ⟨rfl, h1⟩
theorem At.bool_inv {w : World} {v : Value} {b : Bool} (h : At w v (.bool b)) : v = .bool b := by
  cases h with
  | bool _ => rfl
theorem At.row_inv {w : World} {v : Value} {l : List (List D)} (h : At w v (.row l)) : ∃ a cap, v = .slice a l.length cap ∧ l.length ≤ cap ∧ cap ≤ maxLen := by
  cases h with
  | nil a cap h => exact ⟨a, cap, rfl, Nat.zero_le _, h⟩
  | row b o len cap k _ cs h1 h2 h3 => subst h1; exact ⟨_, cap, rfl, h2, h3⟩
theorem At.len_eq {w : World} {a : Option Addr} {len cap : Nat} {l : List (List D)} (h : At w (.slice a len cap) (.row l)) : l.length = len ∧ len ≤ cap ∧ cap ≤ maxLen := by
  cases h with
  | nil a cap h => exact ⟨rfl, Nat.zero_le _, h⟩
  | row b o len cap k _ cs h1 h2 h3 => exact ⟨h1, h2, h3⟩
theorem At.len_le {w : World} {a : Option Addr} {len cap : Nat} {l : List (List D)} (h : At w (.slice a len cap) (.row l)) : len ≤ 9223372036854775807 := by
  have := h.len_eq
  unfold maxLen at this
  omega
/-- An element of a row. -/
theorem At.elem {w : World} {a : Option Addr} {len cap : Nat} {l : List (List D)} (h : At w (.slice a len cap) (.row l)) {j : Nat} (hj : j < len) :
    ∃ b o vs ds, a = some ⟨b, o, none⟩ ∧ b < w.heap.size ∧ l[j]? = some ds ∧ AllAt w vs ds ∧ ∀ (i : Nat) (v : Value), vs[i]? = some v → w.cell? ⟨b, o + j * ds.length + i, none⟩ = some v := by
  cases h with
  | nil a cap h => omega
  | row b o len cap k _ cs h1 h2 h3 h4 h5 h6 h7 h8 =>
    have hx : l[j]? = some (l[j]'(by omega)) := List.getElem?_eq_getElem (by omega)
    have hk := h6 j _ hx
    refine ⟨b, o, cs j, _, rfl, h4, hx, allAt_of ((h5 j hj).trans hk.symm) fun i v d hv hd => h8 j i _ v d hx hv hd, fun i v hv => ?_⟩
    rw [hk]
    exact h7 j i v hj hv

/-- The shapes. -/
inductive ShT : List D → Prop where
  | mk (s : ByteArray) : ShT [.str s]
inductive ShE : List D → Prop where
  | mk (op n : Int) (nm fd : ByteArray) (l : List (List D)) : (∀ x ∈ l, ShE x) → ShE [.int op, .int n, .str nm, .str fd, .row l]
inductive ShF : List D → Prop where
  | mk (m0 m1 : List (List D)) (nm : ByteArray) (kd : Int) : (∀ x ∈ m0, ShT x) → (∀ x ∈ m1, ShT x) → ShF [.row m0, .row m1, .str nm, .int kd]
inductive ShC : List D → Prop where
  | mk (m0 m1 : List (List D)) (nm : ByteArray) (fs en : List (List D)) : (∀ x ∈ m0, ShT x) → (∀ x ∈ m1, ShT x) → (∀ x ∈ fs, ShF x) → (∀ x ∈ en, ShT x) → ShC [.row m0, .row m1, .str nm, .row fs, .row en]
inductive ShV : List D → Prop where
  | mk (m0 m1 : List (List D)) (nm : ByteArray) (kd sz : Int) (tn : ByteArray) : (∀ x ∈ m0, ShT x) → (∀ x ∈ m1, ShT x) → ShV [.row m0, .row m1, .str nm, .int kd, .int sz, .str tn]
inductive ShP : List D → Prop where
  | mk (nm : ByteArray) (kd sz : Int) (tn : ByteArray) (md : Int) : ShP [.str nm, .int kd, .int sz, .str tn, .int md]
inductive ShS : List D → Prop where
  | mk (m0 m1 : List (List D)) (op : Int) (nm : ByteArray) (pop pn : Int) (pnm pfd : ByteArray) (pl e : List (List D)) (dn mo : Bool) (bd el en e2 : List (List D)) :
      (∀ x ∈ m0, ShT x) → (∀ x ∈ m1, ShT x) → (∀ x ∈ pl, ShE x) → (∀ x ∈ e, ShE x) → (∀ x ∈ bd, ShS x) → (∀ x ∈ el, ShS x) → (∀ x ∈ en, ShT x) → (∀ x ∈ e2, ShT x) →
      ShS [.row m0, .row m1, .int op, .str nm, .int pop, .int pn, .str pnm, .str pfd, .row pl, .row e, .bool dn, .bool mo, .row bd, .row el, .row en, .row e2]
inductive ShR : List D → Prop where
  | mk (m0 m1 : List (List D)) (nm : ByteArray) (rs : Int) (ps vs inn bd en : List (List D)) :
      (∀ x ∈ m0, ShT x) → (∀ x ∈ m1, ShT x) → (∀ x ∈ ps, ShP x) → (∀ x ∈ vs, ShV x) → (∀ x ∈ inn, ShR x) → (∀ x ∈ bd, ShS x) → (∀ x ∈ en, ShT x) →
      ShR [.row m0, .row m1, .str nm, .int rs, .row ps, .row vs, .row inn, .row bd, .row en]
inductive ShG : List D → Prop where
  | mk (nm : ByteArray) (be mi af rc vs rt bd en : List (List D)) :
      (∀ x ∈ be, ShT x) → (∀ x ∈ mi, ShT x) → (∀ x ∈ af, ShT x) → (∀ x ∈ rc, ShC x) → (∀ x ∈ vs, ShV x) → (∀ x ∈ rt, ShR x) → (∀ x ∈ bd, ShS x) → (∀ x ∈ en, ShT x) →
      ShG [.str nm, .row be, .row mi, .row af, .row rc, .row vs, .row rt, .row bd, .row en]

/-- Are both the same? -/
noncomputable def same {α : Type} (x y : α) : Bool := @decide (x = y) (Classical.propDecidable _)
theorem same_iff {α : Type} (x y : α) : same x y = true ↔ x = y := by unfold same; simp
theorem same_refl {α : Type} (x : α) : same x x = true := (same_iff _ _).2 rfl
theorem same_no {α : Type} {x y : α} (h : x ≠ y) : same x y = false := by
  cases hb : same x y with
  | false => rfl
  | true => exact absurd ((same_iff _ _).1 hb) h
theorem same_comm {α : Type} (x y : α) : same x y = same y x := by
  by_cases h : x = y
  · subst h; rfl
  · rw [same_no h, same_no (Ne.symm h)]
end Go.Proofs.YtciijpahjjoppaaGreat
end
section
namespace Go.Proofs.YtciijpahjjoppaaGreat
open Go.RowKit Go.Deep

/-- What a comparison leaves. -/
def EqPost {α : Type} (x y : α) (W : World) (e : Ending) (W' : World) : Prop := e = .returned (.bool (same x y)) ∧ Below W.heap.size W W'
theorem take_same_succ {α : Type} {l l' : List α} {k : Nat} {x : α} (hx : l[k]? = some x) (hy : l'[k]? = some x) (h : l.take k = l'.take k) : l.take (k + 1) = l'.take (k + 1) := by
  rw [List.take_add_one, List.take_add_one, h, hx, hy]
theorem same_miss {α : Type} {l l' : List α} {k : Nat} {x y : α} (hx : l[k]? = some x) (hy : l'[k]? = some y) (h : same x y = false) : same l l' = false := by
  refine same_no fun e => ?_
  subst e
  rw [hx] at hy
  cases hy
  rw [same_refl] at h
  cases h
theorem same_len {α : Type} {l l' : List α} (h : l.length ≠ l'.length) : same l l' = false := same_no fun e => h (by rw [e])
theorem same_end {α : Type} {l l' : List α} (hl : l.length = l'.length) (h : l.take l.length = l'.take l.length) : same l l' = true := by
  rw [List.take_length, hl, List.take_length] at h
  exact (same_iff _ _).2 h
/-- A function that compares the elements of two rows. -/
def EqFn (w0 : World) (g : Nat) (l l' : List (List D)) : Prop := ∀ x ∈ l, ∀ y ∈ l', ∀ vs ws, AllAt w0 vs x → AllAt w0 ws y → ∀ W, Below w0.heap.size w0 W → Calls Tryz.prog g #[.agg ⟨vs⟩, .agg ⟨ws⟩] W (EqPost x y W)
theorem AllAt.openT {w : World} {vs : List Value} {ds : List D} (h : AllAt w vs ds) (hs : ShT ds) :
    ∃ s, ds = [.str s] ∧ vs = [.string s] ∧ s.size ≤ maxLen := by
  cases hs with
  | mk s  =>
    match vs, h with
    | [v0], ⟨h0, _⟩ =>
      obtain ⟨rfl, i0⟩ := h0.str_inv
      exact ⟨s, rfl, rfl, i0⟩
theorem AllAt.openE {w : World} {vs : List Value} {ds : List D} (h : AllAt w vs ds) (hs : ShE ds) :
    ∃ op n nm fd kl kla klc, ds = [.int op, .int n, .str nm, .str fd, .row kl] ∧ vs = [.int .i64 op, .int .i64 n, .string nm, .string fd, .slice kla kl.length klc] ∧ (-9223372036854775808 ≤ op ∧ op ≤ 9223372036854775807) ∧ (-9223372036854775808 ≤ n ∧ n ≤ 9223372036854775807) ∧ nm.size ≤ maxLen ∧ fd.size ≤ maxLen ∧ At w (.slice kla kl.length klc) (.row kl) ∧ (∀ x ∈ kl, ShE x) := by
  cases hs with
  | mk op n nm fd kl skl =>
    match vs, h with
    | [v0, v1, v2, v3, v4], ⟨h0, h1, h2, h3, h4, _⟩ =>
      obtain ⟨rfl, i0⟩ := h0.int_inv
      obtain ⟨rfl, i1⟩ := h1.int_inv
      obtain ⟨rfl, i2⟩ := h2.str_inv
      obtain ⟨rfl, i3⟩ := h3.str_inv
      obtain ⟨kla, klc, rfl, _⟩ := h4.row_inv
      exact ⟨op, n, nm, fd, kl, kla, klc, rfl, rfl, i0, i1, i2, i3, h4, skl⟩
theorem AllAt.openF {w : World} {vs : List Value} {ds : List D} (h : AllAt w vs ds) (hs : ShF ds) :
    ∃ m0 m1 nm kd m0a m0c m1a m1c, ds = [.row m0, .row m1, .str nm, .int kd] ∧ vs = [.slice m0a m0.length m0c, .slice m1a m1.length m1c, .string nm, .int .i64 kd] ∧ At w (.slice m0a m0.length m0c) (.row m0) ∧ At w (.slice m1a m1.length m1c) (.row m1) ∧ nm.size ≤ maxLen ∧ (-9223372036854775808 ≤ kd ∧ kd ≤ 9223372036854775807) ∧ (∀ x ∈ m0, ShT x) ∧ (∀ x ∈ m1, ShT x) := by
  cases hs with
  | mk m0 m1 nm kd sm0 sm1 =>
    match vs, h with
    | [v0, v1, v2, v3], ⟨h0, h1, h2, h3, _⟩ =>
      obtain ⟨m0a, m0c, rfl, _⟩ := h0.row_inv
      obtain ⟨m1a, m1c, rfl, _⟩ := h1.row_inv
      obtain ⟨rfl, i2⟩ := h2.str_inv
      obtain ⟨rfl, i3⟩ := h3.int_inv
      exact ⟨m0, m1, nm, kd, m0a, m0c, m1a, m1c, rfl, rfl, h0, h1, i2, i3, sm0, sm1⟩
theorem AllAt.openC {w : World} {vs : List Value} {ds : List D} (h : AllAt w vs ds) (hs : ShC ds) :
    ∃ m0 m1 nm fs en m0a m0c m1a m1c fsa fsc ena enc, ds = [.row m0, .row m1, .str nm, .row fs, .row en] ∧ vs = [.slice m0a m0.length m0c, .slice m1a m1.length m1c, .string nm, .slice fsa fs.length fsc, .slice ena en.length enc] ∧ At w (.slice m0a m0.length m0c) (.row m0) ∧ At w (.slice m1a m1.length m1c) (.row m1) ∧ nm.size ≤ maxLen ∧ At w (.slice fsa fs.length fsc) (.row fs) ∧ At w (.slice ena en.length enc) (.row en) ∧ (∀ x ∈ m0, ShT x) ∧ (∀ x ∈ m1, ShT x) ∧ (∀ x ∈ fs, ShF x) ∧ (∀ x ∈ en, ShT x) := by
  cases hs with
  | mk m0 m1 nm fs en sm0 sm1 sfs sen =>
    match vs, h with
    | [v0, v1, v2, v3, v4], ⟨h0, h1, h2, h3, h4, _⟩ =>
      obtain ⟨m0a, m0c, rfl, _⟩ := h0.row_inv
      obtain ⟨m1a, m1c, rfl, _⟩ := h1.row_inv
      obtain ⟨rfl, i2⟩ := h2.str_inv
      obtain ⟨fsa, fsc, rfl, _⟩ := h3.row_inv
      obtain ⟨ena, enc, rfl, _⟩ := h4.row_inv
      exact ⟨m0, m1, nm, fs, en, m0a, m0c, m1a, m1c, fsa, fsc, ena, enc, rfl, rfl, h0, h1, i2, h3, h4, sm0, sm1, sfs, sen⟩
theorem AllAt.openV {w : World} {vs : List Value} {ds : List D} (h : AllAt w vs ds) (hs : ShV ds) :
    ∃ m0 m1 nm kd sz tn m0a m0c m1a m1c, ds = [.row m0, .row m1, .str nm, .int kd, .int sz, .str tn] ∧ vs = [.slice m0a m0.length m0c, .slice m1a m1.length m1c, .string nm, .int .i64 kd, .int .i64 sz, .string tn] ∧ At w (.slice m0a m0.length m0c) (.row m0) ∧ At w (.slice m1a m1.length m1c) (.row m1) ∧ nm.size ≤ maxLen ∧ (-9223372036854775808 ≤ kd ∧ kd ≤ 9223372036854775807) ∧ (-9223372036854775808 ≤ sz ∧ sz ≤ 9223372036854775807) ∧ tn.size ≤ maxLen ∧ (∀ x ∈ m0, ShT x) ∧ (∀ x ∈ m1, ShT x) := by
  cases hs with
  | mk m0 m1 nm kd sz tn sm0 sm1 =>
    match vs, h with
    | [v0, v1, v2, v3, v4, v5], ⟨h0, h1, h2, h3, h4, h5, _⟩ =>
      obtain ⟨m0a, m0c, rfl, _⟩ := h0.row_inv
      obtain ⟨m1a, m1c, rfl, _⟩ := h1.row_inv
      obtain ⟨rfl, i2⟩ := h2.str_inv
      obtain ⟨rfl, i3⟩ := h3.int_inv
      obtain ⟨rfl, i4⟩ := h4.int_inv
      obtain ⟨rfl, i5⟩ := h5.str_inv
      exact ⟨m0, m1, nm, kd, sz, tn, m0a, m0c, m1a, m1c, rfl, rfl, h0, h1, i2, i3, i4, i5, sm0, sm1⟩
theorem AllAt.openP {w : World} {vs : List Value} {ds : List D} (h : AllAt w vs ds) (hs : ShP ds) :
    ∃ nm kd sz tn md, ds = [.str nm, .int kd, .int sz, .str tn, .int md] ∧ vs = [.string nm, .int .i64 kd, .int .i64 sz, .string tn, .int .i64 md] ∧ nm.size ≤ maxLen ∧ (-9223372036854775808 ≤ kd ∧ kd ≤ 9223372036854775807) ∧ (-9223372036854775808 ≤ sz ∧ sz ≤ 9223372036854775807) ∧ tn.size ≤ maxLen ∧ (-9223372036854775808 ≤ md ∧ md ≤ 9223372036854775807) := by
  cases hs with
  | mk nm kd sz tn md  =>
    match vs, h with
    | [v0, v1, v2, v3, v4], ⟨h0, h1, h2, h3, h4, _⟩ =>
      obtain ⟨rfl, i0⟩ := h0.str_inv
      obtain ⟨rfl, i1⟩ := h1.int_inv
      obtain ⟨rfl, i2⟩ := h2.int_inv
      obtain ⟨rfl, i3⟩ := h3.str_inv
      obtain ⟨rfl, i4⟩ := h4.int_inv
      exact ⟨nm, kd, sz, tn, md, rfl, rfl, i0, i1, i2, i3, i4⟩
theorem AllAt.openS {w : World} {vs : List Value} {ds : List D} (h : AllAt w vs ds) (hs : ShS ds) :
    ∃ m0 m1 op nm pop pn pnm pfd pl ex dn mo bd el en e2 m0a m0c m1a m1c pla plc exa exc bda bdc ela elc ena enc e2a e2c, ds = [.row m0, .row m1, .int op, .str nm, .int pop, .int pn, .str pnm, .str pfd, .row pl, .row ex, .bool dn, .bool mo, .row bd, .row el, .row en, .row e2] ∧ vs = [.slice m0a m0.length m0c, .slice m1a m1.length m1c, .int .i64 op, .string nm, .int .i64 pop, .int .i64 pn, .string pnm, .string pfd, .slice pla pl.length plc, .slice exa ex.length exc, .bool dn, .bool mo, .slice bda bd.length bdc, .slice ela el.length elc, .slice ena en.length enc, .slice e2a e2.length e2c] ∧ At w (.slice m0a m0.length m0c) (.row m0) ∧ At w (.slice m1a m1.length m1c) (.row m1) ∧ (-9223372036854775808 ≤ op ∧ op ≤ 9223372036854775807) ∧ nm.size ≤ maxLen ∧ (-9223372036854775808 ≤ pop ∧ pop ≤ 9223372036854775807) ∧ (-9223372036854775808 ≤ pn ∧ pn ≤ 9223372036854775807) ∧ pnm.size ≤ maxLen ∧ pfd.size ≤ maxLen ∧ At w (.slice pla pl.length plc) (.row pl) ∧ At w (.slice exa ex.length exc) (.row ex) ∧ At w (.slice bda bd.length bdc) (.row bd) ∧ At w (.slice ela el.length elc) (.row el) ∧ At w (.slice ena en.length enc) (.row en) ∧ At w (.slice e2a e2.length e2c) (.row e2) ∧ (∀ x ∈ m0, ShT x) ∧ (∀ x ∈ m1, ShT x) ∧ (∀ x ∈ pl, ShE x) ∧ (∀ x ∈ ex, ShE x) ∧ (∀ x ∈ bd, ShS x) ∧ (∀ x ∈ el, ShS x) ∧ (∀ x ∈ en, ShT x) ∧ (∀ x ∈ e2, ShT x) := by
  cases hs with
  | mk m0 m1 op nm pop pn pnm pfd pl ex dn mo bd el en e2 sm0 sm1 spl sex sbd sel sen se2 =>
    match vs, h with
    | [v0, v1, v2, v3, v4, v5, v6, v7, v8, v9, v10, v11, v12, v13, v14, v15], ⟨h0, h1, h2, h3, h4, h5, h6, h7, h8, h9, h10, h11, h12, h13, h14, h15, _⟩ =>
      obtain ⟨m0a, m0c, rfl, _⟩ := h0.row_inv
      obtain ⟨m1a, m1c, rfl, _⟩ := h1.row_inv
      obtain ⟨rfl, i2⟩ := h2.int_inv
      obtain ⟨rfl, i3⟩ := h3.str_inv
      obtain ⟨rfl, i4⟩ := h4.int_inv
      obtain ⟨rfl, i5⟩ := h5.int_inv
      obtain ⟨rfl, i6⟩ := h6.str_inv
      obtain ⟨rfl, i7⟩ := h7.str_inv
      obtain ⟨pla, plc, rfl, _⟩ := h8.row_inv
      obtain ⟨exa, exc, rfl, _⟩ := h9.row_inv
      obtain rfl := h10.bool_inv
      obtain rfl := h11.bool_inv
      obtain ⟨bda, bdc, rfl, _⟩ := h12.row_inv
      obtain ⟨ela, elc, rfl, _⟩ := h13.row_inv
      obtain ⟨ena, enc, rfl, _⟩ := h14.row_inv
      obtain ⟨e2a, e2c, rfl, _⟩ := h15.row_inv
      exact ⟨m0, m1, op, nm, pop, pn, pnm, pfd, pl, ex, dn, mo, bd, el, en, e2, m0a, m0c, m1a, m1c, pla, plc, exa, exc, bda, bdc, ela, elc, ena, enc, e2a, e2c, rfl, rfl, h0, h1, i2, i3, i4, i5, i6, i7, h8, h9, h12, h13, h14, h15, sm0, sm1, spl, sex, sbd, sel, sen, se2⟩
theorem AllAt.openR {w : World} {vs : List Value} {ds : List D} (h : AllAt w vs ds) (hs : ShR ds) :
    ∃ m0 m1 nm rs ps vr inn bd en m0a m0c m1a m1c psa psc vra vrc inna innc bda bdc ena enc, ds = [.row m0, .row m1, .str nm, .int rs, .row ps, .row vr, .row inn, .row bd, .row en] ∧ vs = [.slice m0a m0.length m0c, .slice m1a m1.length m1c, .string nm, .int .i64 rs, .slice psa ps.length psc, .slice vra vr.length vrc, .slice inna inn.length innc, .slice bda bd.length bdc, .slice ena en.length enc] ∧ At w (.slice m0a m0.length m0c) (.row m0) ∧ At w (.slice m1a m1.length m1c) (.row m1) ∧ nm.size ≤ maxLen ∧ (-9223372036854775808 ≤ rs ∧ rs ≤ 9223372036854775807) ∧ At w (.slice psa ps.length psc) (.row ps) ∧ At w (.slice vra vr.length vrc) (.row vr) ∧ At w (.slice inna inn.length innc) (.row inn) ∧ At w (.slice bda bd.length bdc) (.row bd) ∧ At w (.slice ena en.length enc) (.row en) ∧ (∀ x ∈ m0, ShT x) ∧ (∀ x ∈ m1, ShT x) ∧ (∀ x ∈ ps, ShP x) ∧ (∀ x ∈ vr, ShV x) ∧ (∀ x ∈ inn, ShR x) ∧ (∀ x ∈ bd, ShS x) ∧ (∀ x ∈ en, ShT x) := by
  cases hs with
  | mk m0 m1 nm rs ps vr inn bd en sm0 sm1 sps svr sinn sbd sen =>
    match vs, h with
    | [v0, v1, v2, v3, v4, v5, v6, v7, v8], ⟨h0, h1, h2, h3, h4, h5, h6, h7, h8, _⟩ =>
      obtain ⟨m0a, m0c, rfl, _⟩ := h0.row_inv
      obtain ⟨m1a, m1c, rfl, _⟩ := h1.row_inv
      obtain ⟨rfl, i2⟩ := h2.str_inv
      obtain ⟨rfl, i3⟩ := h3.int_inv
      obtain ⟨psa, psc, rfl, _⟩ := h4.row_inv
      obtain ⟨vra, vrc, rfl, _⟩ := h5.row_inv
      obtain ⟨inna, innc, rfl, _⟩ := h6.row_inv
      obtain ⟨bda, bdc, rfl, _⟩ := h7.row_inv
      obtain ⟨ena, enc, rfl, _⟩ := h8.row_inv
      exact ⟨m0, m1, nm, rs, ps, vr, inn, bd, en, m0a, m0c, m1a, m1c, psa, psc, vra, vrc, inna, innc, bda, bdc, ena, enc, rfl, rfl, h0, h1, i2, i3, h4, h5, h6, h7, h8, sm0, sm1, sps, svr, sinn, sbd, sen⟩
theorem AllAt.openG {w : World} {vs : List Value} {ds : List D} (h : AllAt w vs ds) (hs : ShG ds) :
    ∃ nm be mi af rc vr rt bd en bea bec mia mic afa afc rca rcc vra vrc rta rtc bda bdc ena enc, ds = [.str nm, .row be, .row mi, .row af, .row rc, .row vr, .row rt, .row bd, .row en] ∧ vs = [.string nm, .slice bea be.length bec, .slice mia mi.length mic, .slice afa af.length afc, .slice rca rc.length rcc, .slice vra vr.length vrc, .slice rta rt.length rtc, .slice bda bd.length bdc, .slice ena en.length enc] ∧ nm.size ≤ maxLen ∧ At w (.slice bea be.length bec) (.row be) ∧ At w (.slice mia mi.length mic) (.row mi) ∧ At w (.slice afa af.length afc) (.row af) ∧ At w (.slice rca rc.length rcc) (.row rc) ∧ At w (.slice vra vr.length vrc) (.row vr) ∧ At w (.slice rta rt.length rtc) (.row rt) ∧ At w (.slice bda bd.length bdc) (.row bd) ∧ At w (.slice ena en.length enc) (.row en) ∧ (∀ x ∈ be, ShT x) ∧ (∀ x ∈ mi, ShT x) ∧ (∀ x ∈ af, ShT x) ∧ (∀ x ∈ rc, ShC x) ∧ (∀ x ∈ vr, ShV x) ∧ (∀ x ∈ rt, ShR x) ∧ (∀ x ∈ bd, ShS x) ∧ (∀ x ∈ en, ShT x) := by
  cases hs with
  | mk nm be mi af rc vr rt bd en sbe smi saf src svr srt sbd sen =>
    match vs, h with
    | [v0, v1, v2, v3, v4, v5, v6, v7, v8], ⟨h0, h1, h2, h3, h4, h5, h6, h7, h8, _⟩ =>
      obtain ⟨rfl, i0⟩ := h0.str_inv
      obtain ⟨bea, bec, rfl, _⟩ := h1.row_inv
      obtain ⟨mia, mic, rfl, _⟩ := h2.row_inv
      obtain ⟨afa, afc, rfl, _⟩ := h3.row_inv
      obtain ⟨rca, rcc, rfl, _⟩ := h4.row_inv
      obtain ⟨vra, vrc, rfl, _⟩ := h5.row_inv
      obtain ⟨rta, rtc, rfl, _⟩ := h6.row_inv
      obtain ⟨bda, bdc, rfl, _⟩ := h7.row_inv
      obtain ⟨ena, enc, rfl, _⟩ := h8.row_inv
      exact ⟨nm, be, mi, af, rc, vr, rt, bd, en, bea, bec, mia, mic, afa, afc, rca, rcc, vra, vrc, rta, rtc, bda, bdc, ena, enc, rfl, rfl, i0, h1, h2, h3, h4, h5, h6, h7, h8, sbe, smi, saf, src, svr, srt, sbd, sen⟩
end Go.Proofs.YtciijpahjjoppaaGreat
end
section
namespace Go.Proofs.YtciijpahjjoppaaGreat
open Go.RowKit Go.Deep

theorem box_cells {w : World} {n : Nat} {cs : Array Value} {t : TypeId} {fz : Nat × Nat} (h : w.heap[n]? = some (.cells cs t fz)) : ∀ i, w.cell? ⟨n, i, none⟩ = cs[i]? := fun i => by
  unfold World.cell?
  simp [h]
theorem setCells_new (w : World) (T : TypeId) : ∀ (rest pre zs : List Value), rest.length = zs.length → (w.alloc (.cells ⟨pre ++ zs⟩ T)).setCells w.heap.size pre.length rest = w.alloc (.cells ⟨pre ++ rest⟩ T)
  | [], pre, zs, h => by
    obtain rfl : zs = [] := List.eq_nil_of_length_eq_zero h.symm
    rfl
  | v :: r, pre, zs, h => by
    match zs, h with
    | z :: zs, h =>
      have := setCells_new w T r (pre ++ [v]) zs (by simpa using h)
      rw [List.length_append, List.append_assoc, List.append_assoc] at this
      show ((w.alloc (.cells ⟨pre ++ z :: zs⟩ T)).setCell ⟨w.heap.size, pre.length, none⟩ v).setCells w.heap.size (pre.length + 1) r = _
      rw [World.setCell_alloc_new]
      have e : (⟨pre ++ z :: zs⟩ : Array Value).setIfInBounds pre.length v = ⟨pre ++ ([v] ++ zs)⟩ := by
        apply Array.ext'
        simp
      rw [e]
      exact this
theorem run_loadAgg {w : World} {T : TypeId} {k : Nat} (hag : ∀ w, (isAgg T).run Tryz.prog w = .ok true w) (hsz : ∀ w, (sizeOf T).run Tryz.prog w = .ok k w) {ad : Addr} {vs : List Value} (hlen : vs.length = k) (hc : ∀ j v, vs[j]? = some v → w.cell? (ad.add j) = some v) :
    (Instr.loadAt T (.pointer (some ad))).run Tryz.prog w = .ok (.agg ⟨vs⟩) w := by
  have h := run_loadCells_list (P := Tryz.prog) (w := w) ad vs hc
  rw [hlen] at h
  unfold Instr.loadAt loadVar
  simp [Instr.sureAddr, hag, hsz, h, Sem.run_bind]
theorem run_storeNew {w : World} {T : TypeId} {k : Nat} (hsz : ∀ w, (sizeOf T).run Tryz.prog w = .ok k w) {vs : List Value} (hlen : vs.length = k) (zs : Array Value) (hz : zs.size = k) (h1 : ∀ v ∈ vs, v.oneCell' = true) :
    (Instr.storeAt T (.pointer (some ⟨w.heap.size, 0, none⟩)) (.agg ⟨vs⟩)).run Tryz.prog (w.alloc (.cells zs T)) = .ok () (w.alloc (.cells ⟨vs⟩ T)) := by
  have h := run_storeCells_cells (P := Tryz.prog) w.heap.size 0 vs 0 (w.alloc (.cells zs T)) (fun j hj => by
    rw [box_cells (heap_new w (.cells zs T)), Array.getElem?_eq_getElem (by omega)]
    rfl) (fun j hj => World.frozen?_alloc_new w zs T _) h1
  have e := setCells_new w T vs [] zs.toList (by simpa [hz] using hlen)
  unfold Instr.storeAt storeVar
  simp [Instr.sureAddr, hsz, hlen, Value.cells, Sem.run_bind]
  rw [h]
  simpa using e
theorem add_mid2 (b o j : Nat) : (⟨b, o, none⟩ : Addr).add j = ⟨b, o + j, none⟩ := by unfold Addr.add; split <;> simp_all
theorem wp_loadAgg {ops : Array Oper} {rest : List Oper} {o : Oper} {a : Act} {Q : Exit → Act → World → Prop} (hgd : o.guard = none) (x : Operand) (T : TypeId) (ho : o.op = .load T x) (k : Nat) (hag : ∀ w, (isAgg T).run Tryz.prog w = .ok true w) (hsz : ∀ w, (sizeOf T).run Tryz.prog w = .ok k w)
    {w : World} (b off : Nat) (hx : a.eval x = .pointer (some ⟨b, off, none⟩)) (vs : List Value) (hlen : vs.length = k) (hc : ∀ j v, vs[j]? = some v → w.cell? ⟨b, off + j, none⟩ = some v)
    (hk : wpList Tryz.prog ops Q rest (a.put o.dst (.agg ⟨vs⟩)) w) : wpList Tryz.prog ops Q (o :: rest) a w := by
  refine wpList_plain hgd fun K hK => ?_
  unfold Oper.wp execOp
  simp only [ho, hx]
  rw [Sem.run_bind, run_loadAgg hag hsz hlen (fun j v hv => by rw [add_mid2]; exact hc j v hv)]
  exact hK _ _ hk
theorem wp_storeNew {ops : Array Oper} {rest : List Oper} {o : Oper} {a : Act} {Q : Exit → Act → World → Prop} (hgd : o.guard = none) (x y : Operand) (T : TypeId) (ho : o.op = .store T x y) (k : Nat) (hsz : ∀ w, (sizeOf T).run Tryz.prog w = .ok k w)
    {w : World} (zs : Array Value) (hz : zs.size = k) (hx : a.eval x = .pointer (some ⟨w.heap.size, 0, none⟩)) (vs : List Value) (hy : a.eval y = .agg ⟨vs⟩) (hlen : vs.length = k) (h1 : ∀ v ∈ vs, v.oneCell' = true)
    (hk : wpList Tryz.prog ops Q rest (a.put o.dst undef) (w.alloc (.cells ⟨vs⟩ T))) : wpList Tryz.prog ops Q (o :: rest) a (w.alloc (.cells zs T)) := by
  refine wpList_plain hgd fun K hK => ?_
  unfold Oper.wp execOp
  simp only [ho, hx, hy]
  rw [Sem.run_bind, run_storeNew hsz hlen zs hz h1]
  exact hK _ _ hk
theorem At.one {w : World} {v : Value} {d : D} (h : At w v d) : v.oneCell' = true := by
  cases h <;> rfl
theorem AllAt.one {w : World} : ∀ {vs : List Value} {ds : List D}, AllAt w vs ds → ∀ v ∈ vs, v.oneCell' = true
  | [], [], _, v, hv => by simp at hv
  | v :: vs, d :: ds, h, u, hu => by
    rcases List.mem_cons.1 hu with rfl | hu
    · exact h.1.one
    · exact AllAt.one h.2 u hu
  | [], _ :: _, h, _, _ => h.elim
  | _ :: _, [], h, _, _ => h.elim
end Go.Proofs.YtciijpahjjoppaaGreat
end
section
namespace Go.Proofs.YtciijpahjjoppaaGreat
open Go.ChangeShapes Go.WideShapes Go.RowKit Go.Deep

section
variable {H : Type} {enc : TypeId × Value → H} {W : World}
theorem list2 {α : Type} {l : List α} (h : l.length = 2) : ∃ a0 a1, l = [a0, a1] := by
  match l, h with
  | [a0, a1], _ => exact ⟨a0, a1, rfl⟩
theorem list3 {α : Type} {l : List α} (h : l.length = 3) : ∃ a0 a1 a2, l = [a0, a1, a2] := by
  match l, h with
  | [a0, a1, a2], _ => exact ⟨a0, a1, a2, rfl⟩
theorem list4 {α : Type} {l : List α} (h : l.length = 4) : ∃ a0 a1 a2 a3, l = [a0, a1, a2, a3] := by
  match l, h with
  | [a0, a1, a2, a3], _ => exact ⟨a0, a1, a2, a3, rfl⟩
theorem list5 {α : Type} {l : List α} (h : l.length = 5) : ∃ a0 a1 a2 a3 a4, l = [a0, a1, a2, a3, a4] := by
  match l, h with
  | [a0, a1, a2, a3, a4], _ => exact ⟨a0, a1, a2, a3, a4, rfl⟩
theorem list6 {α : Type} {l : List α} (h : l.length = 6) : ∃ a0 a1 a2 a3 a4 a5, l = [a0, a1, a2, a3, a4, a5] := by
  match l, h with
  | [a0, a1, a2, a3, a4, a5], _ => exact ⟨a0, a1, a2, a3, a4, a5, rfl⟩
theorem list8 {α : Type} {l : List α} (h : l.length = 8) : ∃ a0 a1 a2 a3 a4 a5 a6 a7, l = [a0, a1, a2, a3, a4, a5, a6, a7] := by
  match l, h with
  | [a0, a1, a2, a3, a4, a5, a6, a7], _ => exact ⟨a0, a1, a2, a3, a4, a5, a6, a7, rfl⟩
theorem list9 {α : Type} {l : List α} (h : l.length = 9) : ∃ a0 a1 a2 a3 a4 a5 a6 a7 a8, l = [a0, a1, a2, a3, a4, a5, a6, a7, a8] := by
  match l, h with
  | [a0, a1, a2, a3, a4, a5, a6, a7, a8], _ => exact ⟨a0, a1, a2, a3, a4, a5, a6, a7, a8, rfl⟩
theorem list11 {α : Type} {l : List α} (h : l.length = 11) : ∃ a0 a1 a2 a3 a4 a5 a6 a7 a8 a9 a10, l = [a0, a1, a2, a3, a4, a5, a6, a7, a8, a9, a10] := by
  match l, h with
  | [a0, a1, a2, a3, a4, a5, a6, a7, a8, a9, a10], _ => exact ⟨a0, a1, a2, a3, a4, a5, a6, a7, a8, a9, a10, rfl⟩
theorem list16 {α : Type} {l : List α} (h : l.length = 16) : ∃ a0 a1 a2 a3 a4 a5 a6 a7 a8 a9 a10 a11 a12 a13 a14 a15, l = [a0, a1, a2, a3, a4, a5, a6, a7, a8, a9, a10, a11, a12, a13, a14, a15] := by
  match l, h with
  | [a0, a1, a2, a3, a4, a5, a6, a7, a8, a9, a10, a11, a12, a13, a14, a15], _ => exact ⟨a0, a1, a2, a3, a4, a5, a6, a7, a8, a9, a10, a11, a12, a13, a14, a15, rfl⟩
/-- A reading gives data of a shape. -/
def Opens (enc : TypeId × Value → H) (W : World) (Sh : List D → Prop) (t : TypeId) (n : Nat) : Prop := ∀ cs x, DataW.trod enc Tryz.prog W 0 (fun _ => true) true n t cs = some x → ∃ ds, AllAt W cs ds ∧ Sh ds
theorem row_of {Sh : List D → Prop} {t e : TypeId} {k : Nat} (ht : Tryz.prog.underlying t = some (.slice e)) (hk : Tryz.prog.cellsOf e = k) (hk0 : 0 < k) (hlen : ∀ ds, Sh ds → ds.length = k) {fuel : Nat} {cs : List Value} {x : DataW H × List MemPlace}
    (h : DataW.trod enc Tryz.prog W 0 (fun _ => true) true fuel t cs = some x) (hel : ∀ n, n < fuel → Opens enc W Sh e n) : ∃ v l, cs = [v] ∧ At W v (.row l) ∧ ∀ z ∈ l, Sh z := by
  rcases DataW.trod_slice ht h with ⟨rfl, _⟩ | ⟨a, len, cap, elems, rest, n, rfl, rfl, _, _, hl, hm, hlen', hin, _, _⟩
  · exact ⟨_, [], rfl, .nil none 0 (by decide), by simp⟩
  · have key : ∀ j, j < len → ∃ p : List Value × List D, W.cells? 0 (a.add (j * k)) k = some p.1 ∧ AllAt W p.1 p.2 ∧ Sh p.2 := by
      intro j hj
      have h1 := hin j hj
      rw [hk, List.getElem?_eq_getElem (by omega)] at h1
      obtain ⟨cs', h2, h3⟩ := Option.bind_eq_some_iff.1 h1
      obtain ⟨ds, h4, h5⟩ := hel n (Nat.lt_succ_self n) cs' _ h3
      exact ⟨(cs', ds), h2, h4, h5⟩
    obtain ⟨f, hf⟩ := choose_lt key
    by_cases h0 : len = 0
    · subst h0
      exact ⟨_, [], rfl, .nil _ _ hm, by simp⟩
    · have hcell : ∀ j i v, j < len → (f j).1[i]? = some v → W.cell? (a.add (j * k + i)) = some v := by
        intro j i v hj hv
        obtain ⟨_, hl', hat⟩ := World.cells?_some (hf j hj).1
        have hi : i < k := by rw [← hl']; exact (List.getElem?_eq_some_iff.1 hv).1
        have := hat i hi
        rw [Go.Deep.add_add] at this
        rw [this, hv]
      obtain ⟨b, o, spot⟩ := a
      have hl0 : (f 0).1.length = k := (World.cells?_some (hf 0 (by omega)).1).2.1
      have hc0 := hcell 0 0 _ (by omega) (List.getElem?_eq_getElem (by omega))
      have hspot : spot = none := by simpa [Addr.add] using World.cell?_spot hc0
      subst hspot
      rw [add_mid2] at hc0
      refine ⟨_, (List.range len).map fun j => (f j).2, rfl, .row b o len cap k _ (fun j => (f j).1) (by simp) hl hm (block_lt_of_cell hc0) (fun j hj => (World.cells?_some (hf j hj).1).2.1) ?_ ?_ ?_, ?_⟩
      · intro j ds hj
        have hj' : j < len := by simpa using (List.getElem?_eq_some_iff.1 hj).1
        simp [hj'] at hj
        rw [← hj]
        exact hlen _ (hf j hj').2.2
      · intro j i v hj hv
        have := hcell j i v hj hv
        rw [add_mid2] at this
        rw [Nat.add_assoc]
        exact this
      · intro j i ds v d hj hv hd
        have hj' : j < len := by simpa using (List.getElem?_eq_some_iff.1 hj).1
        simp [hj'] at hj
        rw [← hj] at hd
        exact (hf j hj').2.1.get i v d hv hd
      · intro z hz
        obtain ⟨j, hj, rfl⟩ := List.mem_map.1 hz
        exact (hf j (by simpa using hj)).2.2
theorem opens_T (n : Nat) : Opens enc W ShT 9 n := fun cs x h => by
  obtain ⟨s, rfl, _, hs⟩ := DataW.trod_string Tryz.underlying9 h
  exact ⟨[.str s], ⟨.str s hs, trivial⟩, .mk s⟩
theorem cel2 : Tryz.prog.cellsOf 2 = 1 := by kernel_rfl
theorem cel3 : Tryz.prog.cellsOf 3 = 1 := by kernel_rfl
theorem cel4 : Tryz.prog.cellsOf 4 = 1 := by kernel_rfl
theorem cel9 : Tryz.prog.cellsOf 9 = 1 := by kernel_rfl
theorem cel22 : Tryz.prog.cellsOf 22 = 1 := by kernel_rfl
theorem cel24 : Tryz.prog.cellsOf 24 = 5 := by kernel_rfl
theorem cel29 : Tryz.prog.cellsOf 29 = 1 := by kernel_rfl
theorem cel30 : Tryz.prog.cellsOf 30 = 1 := by kernel_rfl
theorem cel31 : Tryz.prog.cellsOf 31 = 1 := by kernel_rfl
theorem cel32 : Tryz.prog.cellsOf 32 = 1 := by kernel_rfl
theorem cel33 : Tryz.prog.cellsOf 33 = 1 := by kernel_rfl
theorem cel35 : Tryz.prog.cellsOf 35 = 9 := by kernel_rfl
theorem cel59 : Tryz.prog.cellsOf 59 = 2 := by kernel_rfl
theorem cel60 : Tryz.prog.cellsOf 60 = 1 := by kernel_rfl
theorem cel62 : Tryz.prog.cellsOf 62 = 5 := by kernel_rfl
theorem cel65 : Tryz.prog.cellsOf 65 = 4 := by kernel_rfl
theorem cel73 : Tryz.prog.cellsOf 73 = 3 := by kernel_rfl
theorem cel75 : Tryz.prog.cellsOf 75 = 6 := by kernel_rfl
theorem cel78 : Tryz.prog.cellsOf 78 = 1 := by kernel_rfl
theorem cel80 : Tryz.prog.cellsOf 80 = 9 := by kernel_rfl
theorem cel84 : Tryz.prog.cellsOf 84 = 16 := by kernel_rfl
theorem cel133 : Tryz.prog.cellsOf 133 = 5 := by kernel_rfl
theorem ShE.ln {ds : List D} (h : ShE ds) : ds.length = 5 := by cases h; rfl
theorem ShF.ln {ds : List D} (h : ShF ds) : ds.length = 4 := by cases h; rfl
theorem ShC.ln {ds : List D} (h : ShC ds) : ds.length = 5 := by cases h; rfl
theorem ShV.ln {ds : List D} (h : ShV ds) : ds.length = 6 := by cases h; rfl
theorem ShP.ln {ds : List D} (h : ShP ds) : ds.length = 5 := by cases h; rfl
theorem ShS.ln {ds : List D} (h : ShS ds) : ds.length = 16 := by cases h; rfl
theorem ShR.ln {ds : List D} (h : ShR ds) : ds.length = 9 := by cases h; rfl
theorem ShG.ln {ds : List D} (h : ShG ds) : ds.length = 9 := by cases h; rfl
theorem ShT.ln {ds : List D} (h : ShT ds) : ds.length = 1 := by cases h; rfl
theorem marks_of {n : Nat} {cs : List Value} {x : DataW H × List MemPlace} (h : DataW.trod enc Tryz.prog W 0 (fun _ => true) true n 59 cs = some x) :
    ∃ v v' l l', cs = [v, v'] ∧ At W v (.row l) ∧ At W v' (.row l') ∧ (∀ z ∈ l, ShT z) ∧ ∀ z ∈ l', ShT z := by
  obtain ⟨xs, m, rfl, _, hl, hlen, hg⟩ := DataW.trod_struct Tryz.underlying59 h
  rw [cel59] at hl
  have hlen' : xs.length = 2 := hlen
  clear hlen
  obtain ⟨c0, c1, rfl⟩ := list2 hl
  obtain ⟨y0, y1, rfl⟩ := list2 hlen'
  · clear hl hlen' h
    have g0 : DataW.trod enc Tryz.prog W 0 (fun _ => true) true m 29 ((([c0, c1] : List Value).drop 0).take (Tryz.prog.cellsOf 29)) = some y0 := hg 0 _ rfl
    rw [cel29] at g0
    have g1 : DataW.trod enc Tryz.prog W 0 (fun _ => true) true m 29 ((([c0, c1] : List Value).drop 1).take (Tryz.prog.cellsOf 29)) = some y1 := hg 1 _ rfl
    rw [cel29] at g1
    obtain ⟨v0, l0, e0, a0, z0⟩ := row_of Tryz.underlying29 cel9 (by omega) (fun _ h => ShT.ln h) g0 (fun j _ => opens_T j)
    obtain ⟨v1, l1, e1, a1, z1⟩ := row_of Tryz.underlying29 cel9 (by omega) (fun _ h => ShT.ln h) g1 (fun j _ => opens_T j)
    obtain rfl : c0 = v0 := by simpa using e0
    obtain rfl : c1 = v1 := by simpa using e1
    exact ⟨_, _, l0, l1, rfl, a0, a1, z0, z1⟩
theorem type_of {n : Nat} {cs : List Value} {x : DataW H × List MemPlace} (h : DataW.trod enc Tryz.prog W 0 (fun _ => true) true n 73 cs = some x) :
    ∃ kd sz tn, cs = [.int .i64 kd, .int .i64 sz, .string tn] ∧ (-9223372036854775808 ≤ kd ∧ kd ≤ 9223372036854775807) ∧ (-9223372036854775808 ≤ sz ∧ sz ≤ 9223372036854775807) ∧ tn.size ≤ maxLen := by
  obtain ⟨xs, m, rfl, _, hl, hlen, hg⟩ := DataW.trod_struct Tryz.underlying73 h
  rw [cel73] at hl
  have hlen' : xs.length = 3 := hlen
  clear hlen
  obtain ⟨c0, c1, c2, rfl⟩ := list3 hl
  obtain ⟨y0, y1, y2, rfl⟩ := list3 hlen'
  · clear hl hlen' h
    have g0 : DataW.trod enc Tryz.prog W 0 (fun _ => true) true m 3 ((([c0, c1, c2] : List Value).drop 0).take (Tryz.prog.cellsOf 3)) = some y0 := hg 0 _ rfl
    rw [cel3] at g0
    have g1 : DataW.trod enc Tryz.prog W 0 (fun _ => true) true m 3 ((([c0, c1, c2] : List Value).drop 1).take (Tryz.prog.cellsOf 3)) = some y1 := hg 1 _ rfl
    rw [cel3] at g1
    have g2 : DataW.trod enc Tryz.prog W 0 (fun _ => true) true m 9 ((([c0, c1, c2] : List Value).drop 2).take (Tryz.prog.cellsOf 9)) = some y2 := hg 2 _ rfl
    rw [cel9] at g2
    obtain ⟨n0, e0, _, w0⟩ := DataW.trod_int Tryz.underlying3 g0
    obtain ⟨n1, e1, _, w1⟩ := DataW.trod_int Tryz.underlying3 g1
    obtain ⟨s, e2, _, w2⟩ := DataW.trod_string Tryz.underlying9 g2
    obtain rfl : c0 = .int .i64 n0 := by simpa using e0
    obtain rfl : c1 = .int .i64 n1 := by simpa using e1
    obtain rfl : c2 = .string s := by simpa using e2
    exact ⟨n0, n1, s, rfl, bounds_i64 w0, bounds_i64 w1, w2⟩
theorem opens_E (n : Nat) : Opens enc W ShE 24 n := by
  induction n using Nat.strongRecOn with
  | ind n ih =>
    intro cs x h
    obtain ⟨xs, m, rfl, _, hl, hlen, hg⟩ := DataW.trod_struct Tryz.underlying24 h
    rw [cel24] at hl
    have hlen' : xs.length = 5 := hlen
    clear hlen
    obtain ⟨c0, c1, c2, c3, c4, rfl⟩ := list5 hl
    obtain ⟨y0, y1, y2, y3, y4, rfl⟩ := list5 hlen'
    clear hl hlen' h
    have g0 : DataW.trod enc Tryz.prog W 0 (fun _ => true) true m 3 ((([c0, c1, c2, c3, c4] : List Value).drop 0).take (Tryz.prog.cellsOf 3)) = some y0 := hg 0 _ rfl
    rw [cel3] at g0
    obtain ⟨n0, e0, _, w0⟩ := DataW.trod_int Tryz.underlying3 g0
    obtain rfl : c0 = .int .i64 n0 := by simpa using e0
    have b0 := bounds_i64 w0
    have g1 : DataW.trod enc Tryz.prog W 0 (fun _ => true) true m 2 ((([.int .i64 n0, c1, c2, c3, c4] : List Value).drop 1).take (Tryz.prog.cellsOf 2)) = some y1 := hg 1 _ rfl
    rw [cel2] at g1
    obtain ⟨n1, e1, _, w1⟩ := DataW.trod_int Tryz.underlying2 g1
    obtain rfl : c1 = .int .i64 n1 := by simpa using e1
    have b1 := bounds_i64 w1
    have g2 : DataW.trod enc Tryz.prog W 0 (fun _ => true) true m 9 ((([.int .i64 n0, .int .i64 n1, c2, c3, c4] : List Value).drop 2).take (Tryz.prog.cellsOf 9)) = some y2 := hg 2 _ rfl
    rw [cel9] at g2
    obtain ⟨s2, e2, _, w2⟩ := DataW.trod_string Tryz.underlying9 g2
    obtain rfl : c2 = .string s2 := by simpa using e2
    have g3 : DataW.trod enc Tryz.prog W 0 (fun _ => true) true m 9 ((([.int .i64 n0, .int .i64 n1, .string s2, c3, c4] : List Value).drop 3).take (Tryz.prog.cellsOf 9)) = some y3 := hg 3 _ rfl
    rw [cel9] at g3
    obtain ⟨s3, e3, _, w3⟩ := DataW.trod_string Tryz.underlying9 g3
    obtain rfl : c3 = .string s3 := by simpa using e3
    have g4 : DataW.trod enc Tryz.prog W 0 (fun _ => true) true m 22 ((([.int .i64 n0, .int .i64 n1, .string s2, .string s3, c4] : List Value).drop 4).take (Tryz.prog.cellsOf 22)) = some y4 := hg 4 _ rfl
    rw [cel22] at g4
    obtain ⟨v4, l4, e4, a4, z4⟩ := row_of Tryz.underlying22 cel24 (by omega) (fun _ h => ShE.ln h) g4 (fun j hj => ih j (by omega))
    obtain rfl : c4 = v4 := by simpa using e4
    exact ⟨[.int n0, .int n1, .str s2, .str s3, .row l4], ⟨.int n0 b0.1 b0.2, .int n1 b1.1 b1.2, .str s2 w2, .str s3 w3, a4, trivial⟩, .mk _ _ _ _ _ z4⟩
theorem opens_F (n : Nat) : Opens enc W ShF 65 n := by
  intro cs x h
  obtain ⟨xs, m, rfl, _, hl, hlen, hg⟩ := DataW.trod_struct Tryz.underlying65 h
  rw [cel65] at hl
  have hlen' : xs.length = 3 := hlen
  clear hlen
  obtain ⟨c0, c1, c2, c3, rfl⟩ := list4 hl
  obtain ⟨y0, y1, y2, rfl⟩ := list3 hlen'
  clear hl hlen' h
  have g0 : DataW.trod enc Tryz.prog W 0 (fun _ => true) true m 59 ((([c0, c1, c2, c3] : List Value).drop 0).take (Tryz.prog.cellsOf 59)) = some y0 := hg 0 _ rfl
  rw [cel59] at g0
  obtain ⟨v0, v0', l0, l0', e0, a0, a0', z0, z0'⟩ := marks_of g0
  obtain ⟨rfl, rfl⟩ : c0 = v0 ∧ c1 = v0' := by simpa using e0
  have g1 : DataW.trod enc Tryz.prog W 0 (fun _ => true) true m 9 ((([c0, c1, c2, c3] : List Value).drop 2).take (Tryz.prog.cellsOf 9)) = some y1 := hg 1 _ rfl
  rw [cel9] at g1
  obtain ⟨s1, e1, _, w1⟩ := DataW.trod_string Tryz.underlying9 g1
  obtain rfl : c2 = .string s1 := by simpa using e1
  have g2 : DataW.trod enc Tryz.prog W 0 (fun _ => true) true m 3 ((([c0, c1, .string s1, c3] : List Value).drop 3).take (Tryz.prog.cellsOf 3)) = some y2 := hg 2 _ rfl
  rw [cel3] at g2
  obtain ⟨n2, e2, _, w2⟩ := DataW.trod_int Tryz.underlying3 g2
  obtain rfl : c3 = .int .i64 n2 := by simpa using e2
  have b2 := bounds_i64 w2
  exact ⟨[.row l0, .row l0', .str s1, .int n2], ⟨a0, a0', .str s1 w1, .int n2 b2.1 b2.2, trivial⟩, .mk _ _ _ _ z0 z0'⟩
theorem opens_C (n : Nat) : Opens enc W ShC 62 n := by
  intro cs x h
  obtain ⟨xs, m, rfl, _, hl, hlen, hg⟩ := DataW.trod_struct Tryz.underlying62 h
  rw [cel62] at hl
  have hlen' : xs.length = 4 := hlen
  clear hlen
  obtain ⟨c0, c1, c2, c3, c4, rfl⟩ := list5 hl
  obtain ⟨y0, y1, y2, y3, rfl⟩ := list4 hlen'
  clear hl hlen' h
  have g0 : DataW.trod enc Tryz.prog W 0 (fun _ => true) true m 59 ((([c0, c1, c2, c3, c4] : List Value).drop 0).take (Tryz.prog.cellsOf 59)) = some y0 := hg 0 _ rfl
  rw [cel59] at g0
  obtain ⟨v0, v0', l0, l0', e0, a0, a0', z0, z0'⟩ := marks_of g0
  obtain ⟨rfl, rfl⟩ : c0 = v0 ∧ c1 = v0' := by simpa using e0
  have g1 : DataW.trod enc Tryz.prog W 0 (fun _ => true) true m 9 ((([c0, c1, c2, c3, c4] : List Value).drop 2).take (Tryz.prog.cellsOf 9)) = some y1 := hg 1 _ rfl
  rw [cel9] at g1
  obtain ⟨s1, e1, _, w1⟩ := DataW.trod_string Tryz.underlying9 g1
  obtain rfl : c2 = .string s1 := by simpa using e1
  have g2 : DataW.trod enc Tryz.prog W 0 (fun _ => true) true m 60 ((([c0, c1, .string s1, c3, c4] : List Value).drop 3).take (Tryz.prog.cellsOf 60)) = some y2 := hg 2 _ rfl
  rw [cel60] at g2
  obtain ⟨v2, l2, e2, a2, z2⟩ := row_of Tryz.underlying60 cel65 (by omega) (fun _ h => ShF.ln h) g2 (fun j _ => opens_F j)
  obtain rfl : c3 = v2 := by simpa using e2
  have g3 : DataW.trod enc Tryz.prog W 0 (fun _ => true) true m 29 ((([c0, c1, .string s1, c3, c4] : List Value).drop 4).take (Tryz.prog.cellsOf 29)) = some y3 := hg 3 _ rfl
  rw [cel29] at g3
  obtain ⟨v3, l3, e3, a3, z3⟩ := row_of Tryz.underlying29 cel9 (by omega) (fun _ h => ShT.ln h) g3 (fun j _ => opens_T j)
  obtain rfl : c4 = v3 := by simpa using e3
  exact ⟨[.row l0, .row l0', .str s1, .row l2, .row l3], ⟨a0, a0', .str s1 w1, a2, a3, trivial⟩, .mk _ _ _ _ _ z0 z0' z2 z3⟩
theorem opens_V (n : Nat) : Opens enc W ShV 75 n := by
  intro cs x h
  obtain ⟨xs, m, rfl, _, hl, hlen, hg⟩ := DataW.trod_struct Tryz.underlying75 h
  rw [cel75] at hl
  have hlen' : xs.length = 3 := hlen
  clear hlen
  obtain ⟨c0, c1, c2, c3, c4, c5, rfl⟩ := list6 hl
  obtain ⟨y0, y1, y2, rfl⟩ := list3 hlen'
  clear hl hlen' h
  have g0 : DataW.trod enc Tryz.prog W 0 (fun _ => true) true m 59 ((([c0, c1, c2, c3, c4, c5] : List Value).drop 0).take (Tryz.prog.cellsOf 59)) = some y0 := hg 0 _ rfl
  rw [cel59] at g0
  obtain ⟨v0, v0', l0, l0', e0, a0, a0', z0, z0'⟩ := marks_of g0
  obtain ⟨rfl, rfl⟩ : c0 = v0 ∧ c1 = v0' := by simpa using e0
  have g1 : DataW.trod enc Tryz.prog W 0 (fun _ => true) true m 9 ((([c0, c1, c2, c3, c4, c5] : List Value).drop 2).take (Tryz.prog.cellsOf 9)) = some y1 := hg 1 _ rfl
  rw [cel9] at g1
  obtain ⟨s1, e1, _, w1⟩ := DataW.trod_string Tryz.underlying9 g1
  obtain rfl : c2 = .string s1 := by simpa using e1
  have g2 : DataW.trod enc Tryz.prog W 0 (fun _ => true) true m 73 ((([c0, c1, .string s1, c3, c4, c5] : List Value).drop 3).take (Tryz.prog.cellsOf 73)) = some y2 := hg 2 _ rfl
  rw [cel73] at g2
  obtain ⟨k2, q2, s2, e2, b2, b2', w2⟩ := type_of g2
  obtain ⟨rfl, rfl, rfl⟩ : c3 = .int .i64 k2 ∧ c4 = .int .i64 q2 ∧ c5 = .string s2 := by simpa using e2
  exact ⟨[.row l0, .row l0', .str s1, .int k2, .int q2, .str s2], ⟨a0, a0', .str s1 w1, .int k2 b2.1 b2.2, .int q2 b2'.1 b2'.2, .str s2 w2, trivial⟩, .mk _ _ _ _ _ _ z0 z0'⟩
theorem opens_P (n : Nat) : Opens enc W ShP 133 n := by
  intro cs x h
  obtain ⟨xs, m, rfl, _, hl, hlen, hg⟩ := DataW.trod_struct Tryz.underlying133 h
  rw [cel133] at hl
  have hlen' : xs.length = 3 := hlen
  clear hlen
  obtain ⟨c0, c1, c2, c3, c4, rfl⟩ := list5 hl
  obtain ⟨y0, y1, y2, rfl⟩ := list3 hlen'
  clear hl hlen' h
  have g0 : DataW.trod enc Tryz.prog W 0 (fun _ => true) true m 9 ((([c0, c1, c2, c3, c4] : List Value).drop 0).take (Tryz.prog.cellsOf 9)) = some y0 := hg 0 _ rfl
  rw [cel9] at g0
  obtain ⟨s0, e0, _, w0⟩ := DataW.trod_string Tryz.underlying9 g0
  obtain rfl : c0 = .string s0 := by simpa using e0
  have g1 : DataW.trod enc Tryz.prog W 0 (fun _ => true) true m 73 ((([.string s0, c1, c2, c3, c4] : List Value).drop 1).take (Tryz.prog.cellsOf 73)) = some y1 := hg 1 _ rfl
  rw [cel73] at g1
  obtain ⟨k1, q1, s1, e1, b1, b1', w1⟩ := type_of g1
  obtain ⟨rfl, rfl, rfl⟩ : c1 = .int .i64 k1 ∧ c2 = .int .i64 q1 ∧ c3 = .string s1 := by simpa using e1
  have g2 : DataW.trod enc Tryz.prog W 0 (fun _ => true) true m 3 ((([.string s0, .int .i64 k1, .int .i64 q1, .string s1, c4] : List Value).drop 4).take (Tryz.prog.cellsOf 3)) = some y2 := hg 2 _ rfl
  rw [cel3] at g2
  obtain ⟨n2, e2, _, w2⟩ := DataW.trod_int Tryz.underlying3 g2
  obtain rfl : c4 = .int .i64 n2 := by simpa using e2
  have b2 := bounds_i64 w2
  exact ⟨[.str s0, .int k1, .int q1, .str s1, .int n2], ⟨.str s0 w0, .int k1 b1.1 b1.2, .int q1 b1'.1 b1'.2, .str s1 w1, .int n2 b2.1 b2.2, trivial⟩, .mk _ _ _ _ _ ⟩
theorem opens_S (n : Nat) : Opens enc W ShS 84 n := by
  induction n using Nat.strongRecOn with
  | ind n ih =>
    intro cs x h
    obtain ⟨xs, m, rfl, _, hl, hlen, hg⟩ := DataW.trod_struct Tryz.underlying84 h
    rw [cel84] at hl
    have hlen' : xs.length = 11 := hlen
    clear hlen
    obtain ⟨c0, c1, c2, c3, c4, c5, c6, c7, c8, c9, c10, c11, c12, c13, c14, c15, rfl⟩ := list16 hl
    obtain ⟨y0, y1, y2, y3, y4, y5, y6, y7, y8, y9, y10, rfl⟩ := list11 hlen'
    clear hl hlen' h
    have g0 : DataW.trod enc Tryz.prog W 0 (fun _ => true) true m 59 ((([c0, c1, c2, c3, c4, c5, c6, c7, c8, c9, c10, c11, c12, c13, c14, c15] : List Value).drop 0).take (Tryz.prog.cellsOf 59)) = some y0 := hg 0 _ rfl
    rw [cel59] at g0
    obtain ⟨v0, v0', l0, l0', e0, a0, a0', z0, z0'⟩ := marks_of g0
    obtain ⟨rfl, rfl⟩ : c0 = v0 ∧ c1 = v0' := by simpa using e0
    have g1 : DataW.trod enc Tryz.prog W 0 (fun _ => true) true m 3 ((([c0, c1, c2, c3, c4, c5, c6, c7, c8, c9, c10, c11, c12, c13, c14, c15] : List Value).drop 2).take (Tryz.prog.cellsOf 3)) = some y1 := hg 1 _ rfl
    rw [cel3] at g1
    obtain ⟨n1, e1, _, w1⟩ := DataW.trod_int Tryz.underlying3 g1
    obtain rfl : c2 = .int .i64 n1 := by simpa using e1
    have b1 := bounds_i64 w1
    have g2 : DataW.trod enc Tryz.prog W 0 (fun _ => true) true m 9 ((([c0, c1, .int .i64 n1, c3, c4, c5, c6, c7, c8, c9, c10, c11, c12, c13, c14, c15] : List Value).drop 3).take (Tryz.prog.cellsOf 9)) = some y2 := hg 2 _ rfl
    rw [cel9] at g2
    obtain ⟨s2, e2, _, w2⟩ := DataW.trod_string Tryz.underlying9 g2
    obtain rfl : c3 = .string s2 := by simpa using e2
    have g3 : DataW.trod enc Tryz.prog W 0 (fun _ => true) true m 24 ((([c0, c1, .int .i64 n1, .string s2, c4, c5, c6, c7, c8, c9, c10, c11, c12, c13, c14, c15] : List Value).drop 4).take (Tryz.prog.cellsOf 24)) = some y3 := hg 3 _ rfl
    rw [cel24] at g3
    obtain ⟨d3, a3, z3⟩ := opens_E _ _ _ g3
    cases z3 with
    | mk xo xn xm xf xl xs' =>
      obtain ⟨a30, a31, a32, a33, a34, _⟩ := a3
      have g4 : DataW.trod enc Tryz.prog W 0 (fun _ => true) true m 22 ((([c0, c1, .int .i64 n1, .string s2, c4, c5, c6, c7, c8, c9, c10, c11, c12, c13, c14, c15] : List Value).drop 9).take (Tryz.prog.cellsOf 22)) = some y4 := hg 4 _ rfl
      rw [cel22] at g4
      obtain ⟨v4, l4, e4, a4, z4⟩ := row_of Tryz.underlying22 cel24 (by omega) (fun _ h => ShE.ln h) g4 (fun j _ => opens_E j)
      obtain rfl : c9 = v4 := by simpa using e4
      have g5 : DataW.trod enc Tryz.prog W 0 (fun _ => true) true m 4 ((([c0, c1, .int .i64 n1, .string s2, c4, c5, c6, c7, c8, c9, c10, c11, c12, c13, c14, c15] : List Value).drop 10).take (Tryz.prog.cellsOf 4)) = some y5 := hg 5 _ rfl
      rw [cel4] at g5
      obtain ⟨t5, e5, _⟩ := DataW.trod_bool Tryz.underlying4 g5
      obtain rfl : c10 = .bool t5 := by simpa using e5
      have g6 : DataW.trod enc Tryz.prog W 0 (fun _ => true) true m 4 ((([c0, c1, .int .i64 n1, .string s2, c4, c5, c6, c7, c8, c9, .bool t5, c11, c12, c13, c14, c15] : List Value).drop 11).take (Tryz.prog.cellsOf 4)) = some y6 := hg 6 _ rfl
      rw [cel4] at g6
      obtain ⟨t6, e6, _⟩ := DataW.trod_bool Tryz.underlying4 g6
      obtain rfl : c11 = .bool t6 := by simpa using e6
      have g7 : DataW.trod enc Tryz.prog W 0 (fun _ => true) true m 33 ((([c0, c1, .int .i64 n1, .string s2, c4, c5, c6, c7, c8, c9, .bool t5, .bool t6, c12, c13, c14, c15] : List Value).drop 12).take (Tryz.prog.cellsOf 33)) = some y7 := hg 7 _ rfl
      rw [cel33] at g7
      obtain ⟨v7, l7, e7, a7, z7⟩ := row_of Tryz.underlying33 cel84 (by omega) (fun _ h => ShS.ln h) g7 (fun j hj => ih j (by omega))
      obtain rfl : c12 = v7 := by simpa using e7
      have g8 : DataW.trod enc Tryz.prog W 0 (fun _ => true) true m 33 ((([c0, c1, .int .i64 n1, .string s2, c4, c5, c6, c7, c8, c9, .bool t5, .bool t6, c12, c13, c14, c15] : List Value).drop 13).take (Tryz.prog.cellsOf 33)) = some y8 := hg 8 _ rfl
      rw [cel33] at g8
      obtain ⟨v8, l8, e8, a8, z8⟩ := row_of Tryz.underlying33 cel84 (by omega) (fun _ h => ShS.ln h) g8 (fun j hj => ih j (by omega))
      obtain rfl : c13 = v8 := by simpa using e8
      have g9 : DataW.trod enc Tryz.prog W 0 (fun _ => true) true m 29 ((([c0, c1, .int .i64 n1, .string s2, c4, c5, c6, c7, c8, c9, .bool t5, .bool t6, c12, c13, c14, c15] : List Value).drop 14).take (Tryz.prog.cellsOf 29)) = some y9 := hg 9 _ rfl
      rw [cel29] at g9
      obtain ⟨v9, l9, e9, a9, z9⟩ := row_of Tryz.underlying29 cel9 (by omega) (fun _ h => ShT.ln h) g9 (fun j _ => opens_T j)
      obtain rfl : c14 = v9 := by simpa using e9
      have g10 : DataW.trod enc Tryz.prog W 0 (fun _ => true) true m 29 ((([c0, c1, .int .i64 n1, .string s2, c4, c5, c6, c7, c8, c9, .bool t5, .bool t6, c12, c13, c14, c15] : List Value).drop 15).take (Tryz.prog.cellsOf 29)) = some y10 := hg 10 _ rfl
      rw [cel29] at g10
      obtain ⟨v10, l10, e10, a10, z10⟩ := row_of Tryz.underlying29 cel9 (by omega) (fun _ h => ShT.ln h) g10 (fun j _ => opens_T j)
      obtain rfl : c15 = v10 := by simpa using e10
      exact ⟨[.row l0, .row l0', .int n1, .str s2, .int xo, .int xn, .str xm, .str xf, .row xl, .row l4, .bool t5, .bool t6, .row l7, .row l8, .row l9, .row l10], ⟨a0, a0', .int n1 b1.1 b1.2, .str s2 w2, a30, a31, a32, a33, a34, a4, .bool t5, .bool t6, a7, a8, a9, a10, trivial⟩, .mk _ _ _ _ _ _ _ _ _ _ _ _ _ _ _ _ z0 z0' xs' z4 z7 z8 z9 z10⟩
theorem opens_R (n : Nat) : Opens enc W ShR 80 n := by
  induction n using Nat.strongRecOn with
  | ind n ih =>
    intro cs x h
    obtain ⟨xs, m, rfl, _, hl, hlen, hg⟩ := DataW.trod_struct Tryz.underlying80 h
    rw [cel80] at hl
    have hlen' : xs.length = 8 := hlen
    clear hlen
    obtain ⟨c0, c1, c2, c3, c4, c5, c6, c7, c8, rfl⟩ := list9 hl
    obtain ⟨y0, y1, y2, y3, y4, y5, y6, y7, rfl⟩ := list8 hlen'
    clear hl hlen' h
    have g0 : DataW.trod enc Tryz.prog W 0 (fun _ => true) true m 59 ((([c0, c1, c2, c3, c4, c5, c6, c7, c8] : List Value).drop 0).take (Tryz.prog.cellsOf 59)) = some y0 := hg 0 _ rfl
    rw [cel59] at g0
    obtain ⟨v0, v0', l0, l0', e0, a0, a0', z0, z0'⟩ := marks_of g0
    obtain ⟨rfl, rfl⟩ : c0 = v0 ∧ c1 = v0' := by simpa using e0
    have g1 : DataW.trod enc Tryz.prog W 0 (fun _ => true) true m 9 ((([c0, c1, c2, c3, c4, c5, c6, c7, c8] : List Value).drop 2).take (Tryz.prog.cellsOf 9)) = some y1 := hg 1 _ rfl
    rw [cel9] at g1
    obtain ⟨s1, e1, _, w1⟩ := DataW.trod_string Tryz.underlying9 g1
    obtain rfl : c2 = .string s1 := by simpa using e1
    have g2 : DataW.trod enc Tryz.prog W 0 (fun _ => true) true m 3 ((([c0, c1, .string s1, c3, c4, c5, c6, c7, c8] : List Value).drop 3).take (Tryz.prog.cellsOf 3)) = some y2 := hg 2 _ rfl
    rw [cel3] at g2
    obtain ⟨n2, e2, _, w2⟩ := DataW.trod_int Tryz.underlying3 g2
    obtain rfl : c3 = .int .i64 n2 := by simpa using e2
    have b2 := bounds_i64 w2
    have g3 : DataW.trod enc Tryz.prog W 0 (fun _ => true) true m 78 ((([c0, c1, .string s1, .int .i64 n2, c4, c5, c6, c7, c8] : List Value).drop 4).take (Tryz.prog.cellsOf 78)) = some y3 := hg 3 _ rfl
    rw [cel78] at g3
    obtain ⟨v3, l3, e3, a3, z3⟩ := row_of Tryz.underlying78 cel133 (by omega) (fun _ h => ShP.ln h) g3 (fun j _ => opens_P j)
    obtain rfl : c4 = v3 := by simpa using e3
    have g4 : DataW.trod enc Tryz.prog W 0 (fun _ => true) true m 31 ((([c0, c1, .string s1, .int .i64 n2, c4, c5, c6, c7, c8] : List Value).drop 5).take (Tryz.prog.cellsOf 31)) = some y4 := hg 4 _ rfl
    rw [cel31] at g4
    obtain ⟨v4, l4, e4, a4, z4⟩ := row_of Tryz.underlying31 cel75 (by omega) (fun _ h => ShV.ln h) g4 (fun j _ => opens_V j)
    obtain rfl : c5 = v4 := by simpa using e4
    have g5 : DataW.trod enc Tryz.prog W 0 (fun _ => true) true m 32 ((([c0, c1, .string s1, .int .i64 n2, c4, c5, c6, c7, c8] : List Value).drop 6).take (Tryz.prog.cellsOf 32)) = some y5 := hg 5 _ rfl
    rw [cel32] at g5
    obtain ⟨v5, l5, e5, a5, z5⟩ := row_of Tryz.underlying32 cel80 (by omega) (fun _ h => ShR.ln h) g5 (fun j hj => ih j (by omega))
    obtain rfl : c6 = v5 := by simpa using e5
    have g6 : DataW.trod enc Tryz.prog W 0 (fun _ => true) true m 33 ((([c0, c1, .string s1, .int .i64 n2, c4, c5, c6, c7, c8] : List Value).drop 7).take (Tryz.prog.cellsOf 33)) = some y6 := hg 6 _ rfl
    rw [cel33] at g6
    obtain ⟨v6, l6, e6, a6, z6⟩ := row_of Tryz.underlying33 cel84 (by omega) (fun _ h => ShS.ln h) g6 (fun j _ => opens_S j)
    obtain rfl : c7 = v6 := by simpa using e6
    have g7 : DataW.trod enc Tryz.prog W 0 (fun _ => true) true m 29 ((([c0, c1, .string s1, .int .i64 n2, c4, c5, c6, c7, c8] : List Value).drop 8).take (Tryz.prog.cellsOf 29)) = some y7 := hg 7 _ rfl
    rw [cel29] at g7
    obtain ⟨v7, l7, e7, a7, z7⟩ := row_of Tryz.underlying29 cel9 (by omega) (fun _ h => ShT.ln h) g7 (fun j _ => opens_T j)
    obtain rfl : c8 = v7 := by simpa using e7
    exact ⟨[.row l0, .row l0', .str s1, .int n2, .row l3, .row l4, .row l5, .row l6, .row l7], ⟨a0, a0', .str s1 w1, .int n2 b2.1 b2.2, a3, a4, a5, a6, a7, trivial⟩, .mk _ _ _ _ _ _ _ _ _ z0 z0' z3 z4 z5 z6 z7⟩
theorem opens_G (n : Nat) : Opens enc W ShG 35 n := by
  intro cs x h
  obtain ⟨xs, m, rfl, _, hl, hlen, hg⟩ := DataW.trod_struct Tryz.underlying35 h
  rw [cel35] at hl
  have hlen' : xs.length = 9 := hlen
  clear hlen
  obtain ⟨c0, c1, c2, c3, c4, c5, c6, c7, c8, rfl⟩ := list9 hl
  obtain ⟨y0, y1, y2, y3, y4, y5, y6, y7, y8, rfl⟩ := list9 hlen'
  clear hl hlen' h
  have g0 : DataW.trod enc Tryz.prog W 0 (fun _ => true) true m 9 ((([c0, c1, c2, c3, c4, c5, c6, c7, c8] : List Value).drop 0).take (Tryz.prog.cellsOf 9)) = some y0 := hg 0 _ rfl
  rw [cel9] at g0
  obtain ⟨s0, e0, _, w0⟩ := DataW.trod_string Tryz.underlying9 g0
  obtain rfl : c0 = .string s0 := by simpa using e0
  have g1 : DataW.trod enc Tryz.prog W 0 (fun _ => true) true m 29 ((([.string s0, c1, c2, c3, c4, c5, c6, c7, c8] : List Value).drop 1).take (Tryz.prog.cellsOf 29)) = some y1 := hg 1 _ rfl
  rw [cel29] at g1
  obtain ⟨v1, l1, e1, a1, z1⟩ := row_of Tryz.underlying29 cel9 (by omega) (fun _ h => ShT.ln h) g1 (fun j _ => opens_T j)
  obtain rfl : c1 = v1 := by simpa using e1
  have g2 : DataW.trod enc Tryz.prog W 0 (fun _ => true) true m 29 ((([.string s0, c1, c2, c3, c4, c5, c6, c7, c8] : List Value).drop 2).take (Tryz.prog.cellsOf 29)) = some y2 := hg 2 _ rfl
  rw [cel29] at g2
  obtain ⟨v2, l2, e2, a2, z2⟩ := row_of Tryz.underlying29 cel9 (by omega) (fun _ h => ShT.ln h) g2 (fun j _ => opens_T j)
  obtain rfl : c2 = v2 := by simpa using e2
  have g3 : DataW.trod enc Tryz.prog W 0 (fun _ => true) true m 29 ((([.string s0, c1, c2, c3, c4, c5, c6, c7, c8] : List Value).drop 3).take (Tryz.prog.cellsOf 29)) = some y3 := hg 3 _ rfl
  rw [cel29] at g3
  obtain ⟨v3, l3, e3, a3, z3⟩ := row_of Tryz.underlying29 cel9 (by omega) (fun _ h => ShT.ln h) g3 (fun j _ => opens_T j)
  obtain rfl : c3 = v3 := by simpa using e3
  have g4 : DataW.trod enc Tryz.prog W 0 (fun _ => true) true m 30 ((([.string s0, c1, c2, c3, c4, c5, c6, c7, c8] : List Value).drop 4).take (Tryz.prog.cellsOf 30)) = some y4 := hg 4 _ rfl
  rw [cel30] at g4
  obtain ⟨v4, l4, e4, a4, z4⟩ := row_of Tryz.underlying30 cel62 (by omega) (fun _ h => ShC.ln h) g4 (fun j _ => opens_C j)
  obtain rfl : c4 = v4 := by simpa using e4
  have g5 : DataW.trod enc Tryz.prog W 0 (fun _ => true) true m 31 ((([.string s0, c1, c2, c3, c4, c5, c6, c7, c8] : List Value).drop 5).take (Tryz.prog.cellsOf 31)) = some y5 := hg 5 _ rfl
  rw [cel31] at g5
  obtain ⟨v5, l5, e5, a5, z5⟩ := row_of Tryz.underlying31 cel75 (by omega) (fun _ h => ShV.ln h) g5 (fun j _ => opens_V j)
  obtain rfl : c5 = v5 := by simpa using e5
  have g6 : DataW.trod enc Tryz.prog W 0 (fun _ => true) true m 32 ((([.string s0, c1, c2, c3, c4, c5, c6, c7, c8] : List Value).drop 6).take (Tryz.prog.cellsOf 32)) = some y6 := hg 6 _ rfl
  rw [cel32] at g6
  obtain ⟨v6, l6, e6, a6, z6⟩ := row_of Tryz.underlying32 cel80 (by omega) (fun _ h => ShR.ln h) g6 (fun j _ => opens_R j)
  obtain rfl : c6 = v6 := by simpa using e6
  have g7 : DataW.trod enc Tryz.prog W 0 (fun _ => true) true m 33 ((([.string s0, c1, c2, c3, c4, c5, c6, c7, c8] : List Value).drop 7).take (Tryz.prog.cellsOf 33)) = some y7 := hg 7 _ rfl
  rw [cel33] at g7
  obtain ⟨v7, l7, e7, a7, z7⟩ := row_of Tryz.underlying33 cel84 (by omega) (fun _ h => ShS.ln h) g7 (fun j _ => opens_S j)
  obtain rfl : c7 = v7 := by simpa using e7
  have g8 : DataW.trod enc Tryz.prog W 0 (fun _ => true) true m 29 ((([.string s0, c1, c2, c3, c4, c5, c6, c7, c8] : List Value).drop 8).take (Tryz.prog.cellsOf 29)) = some y8 := hg 8 _ rfl
  rw [cel29] at g8
  obtain ⟨v8, l8, e8, a8, z8⟩ := row_of Tryz.underlying29 cel9 (by omega) (fun _ h => ShT.ln h) g8 (fun j _ => opens_T j)
  obtain rfl : c8 = v8 := by simpa using e8
  exact ⟨[.str s0, .row l1, .row l2, .row l3, .row l4, .row l5, .row l6, .row l7, .row l8], ⟨.str s0 w0, a1, a2, a3, a4, a5, a6, a7, a8, trivial⟩, .mk _ _ _ _ _ _ _ _ _ z1 z2 z3 z4 z5 z6 z7 z8⟩
end
end Go.Proofs.YtciijpahjjoppaaGreat
end
section
namespace Go.Proofs.YtciijpahjjoppaaGreat
open Go.ChangeShapes Go.WideShapes Go.ChangeAt Go.RowKit
theorem own : ownKnob Tryz.prog.godebug = none := by kernel_rfl
theorem laidOut : laidOutB Tryz.prog = true := by kernel_rfl
end Go.Proofs.YtciijpahjjoppaaGreat
end
section
namespace Go.Proofs
open Go.Shelf
def Tryz.lays169_ren : Go.Shelf.Ren := ⟨fun | 169 => 144 | n => n, fun | 70 => 183 | 9 => 9 | 0 => 0 | 72 => 186 | 37 => 184 | 127 => 201 | 3 => 3 | 5 => 5 | n => n, fun | n => n⟩
theorem Tryz.lays169 : Go.Proofs.Lays.n169 Tryz.prog Tryz.lays169_ren := {
  mixed := by kernel_rfl
  f169 := Tryz.func144.trans (congrArg some (by kernel_rfl))
  t0 := Tryz.underlying0
  a0 := Tryz.isAgg0
  z0 := Tryz.sizeOf0
  v0 := Tryz.zeroValue0
  t3 := Tryz.underlying3
  a3 := Tryz.isAgg3
  z3 := Tryz.sizeOf3
  v3 := Tryz.zeroValue3
  t9 := Tryz.underlying9
  a9 := Tryz.isAgg9
  z9 := Tryz.sizeOf9
  v9 := Tryz.zeroValue9
  t37 := Tryz.underlying184
  a37 := Tryz.isAgg184
  z37 := Tryz.sizeOf184
  v37 := Tryz.zeroValue184
  t70 := Tryz.underlying183
  a70 := Tryz.isAgg183
  z70 := Tryz.sizeOf183
  v70 := Tryz.zeroValue183
  t72 := Tryz.underlying186
  a72 := Tryz.isAgg186
  z72 := Tryz.sizeOf186
  v72 := Tryz.zeroValue186
  t127 := Tryz.underlying201
  a127 := Tryz.isAgg201
  z127 := Tryz.sizeOf201
  v127 := Tryz.zeroValue201 }
theorem Tryz.Builder_Extra_169 : Builder.Extra Tryz.prog Tryz.lays169_ren := {
  sizeBuilder := by kernel_rfl
  liesBuilder := by kernel_rfl
  t5 := Tryz.underlying5
  a5 := Tryz.isAgg5
  z5 := Tryz.sizeOf5
  v5 := Tryz.zeroValue5
  infoByte := by kernel_rfl
  cellsByte := by kernel_rfl
  sizeByte := by kernel_rfl
  neB5 := by decide }
open Go.RowKit in
theorem Tryz.Builder_String (B b : Nat) (l : List UInt8) (w : World) (h : Lib.IsBuilder 186 5 B b (Lib.byteCells l) w) (h0 : l ≠ []) :
    Calls Tryz.prog 144 #[.pointer (some ⟨b, 0, none⟩)] w fun e w' => e = .returned (.string ⟨l.toArray⟩) ∧ Below B w w' := Any.Builder_String Tryz.lays169 Tryz.Builder_Extra_169 B b l w h h0
open Go.RowKit in
theorem Tryz.Builder_String_any (B b : Nat) (l : List UInt8) (w : World) (h : Lib.IsBuilder 186 5 B b (Lib.byteCells l) w) (hBw : B ≤ w.heap.size) :
    Calls Tryz.prog 144 #[.pointer (some ⟨b, 0, none⟩)] w fun e w' => e = .returned (.string ⟨l.toArray⟩) ∧ Below B w w' := Any.Builder_String_any Tryz.lays169 Tryz.Builder_Extra_169 B b l w h hBw
def Tryz.lays156_ren : Go.Shelf.Ren := ⟨fun | 156 => 122 | 165 => 142 | 166 => 143 | 169 => 144 | 240 => 155 | 241 => 156 | 276 => 161 | 277 => 162 | n => n, fun | 31 => 29 | 9 => 9 | 3 => 3 | 4 => 4 | 0 => 0 | 20 => 20 | 72 => 186 | 76 => 190 | 70 => 183 | 37 => 184 | 75 => 189 | 127 => 201 | 164 => 205 | 5 => 5 | 80 => 192 | n => n, fun | n => n⟩
theorem Tryz.lays156 : Go.Proofs.Lays.n156 Tryz.prog Tryz.lays156_ren := {
  mixed := by kernel_rfl
  f156 := Tryz.func122.trans (congrArg some (by kernel_rfl))
  f165 := Tryz.func142.trans (congrArg some (by kernel_rfl))
  f166 := Tryz.func143.trans (congrArg some (by kernel_rfl))
  f169 := Tryz.func144.trans (congrArg some (by kernel_rfl))
  f240 := Tryz.func155.trans (congrArg some (by kernel_rfl))
  f241 := Tryz.func156.trans (congrArg some (by kernel_rfl))
  f276 := Tryz.func161.trans (congrArg some (by kernel_rfl))
  f277 := Tryz.func162.trans (congrArg some (by kernel_rfl))
  t0 := Tryz.underlying0
  a0 := Tryz.isAgg0
  z0 := Tryz.sizeOf0
  v0 := Tryz.zeroValue0
  t3 := Tryz.underlying3
  a3 := Tryz.isAgg3
  z3 := Tryz.sizeOf3
  v3 := Tryz.zeroValue3
  t4 := Tryz.underlying4
  a4 := Tryz.isAgg4
  z4 := Tryz.sizeOf4
  v4 := Tryz.zeroValue4
  t9 := Tryz.underlying9
  a9 := Tryz.isAgg9
  z9 := Tryz.sizeOf9
  v9 := Tryz.zeroValue9
  t20 := Tryz.underlying20
  a20 := Tryz.isAgg20
  z20 := Tryz.sizeOf20
  v20 := Tryz.zeroValue20
  t31 := Tryz.underlying29
  a31 := Tryz.isAgg29
  z31 := Tryz.sizeOf29
  v31 := Tryz.zeroValue29
  t37 := Tryz.underlying184
  a37 := Tryz.isAgg184
  z37 := Tryz.sizeOf184
  v37 := Tryz.zeroValue184
  t70 := Tryz.underlying183
  a70 := Tryz.isAgg183
  z70 := Tryz.sizeOf183
  v70 := Tryz.zeroValue183
  t72 := Tryz.underlying186
  a72 := Tryz.isAgg186
  z72 := Tryz.sizeOf186
  v72 := Tryz.zeroValue186
  t75 := Tryz.underlying189
  a75 := Tryz.isAgg189
  z75 := Tryz.sizeOf189
  v75 := Tryz.zeroValue189
  t76 := Tryz.underlying190
  a76 := Tryz.isAgg190
  z76 := Tryz.sizeOf190
  v76 := Tryz.zeroValue190
  t127 := Tryz.underlying201
  a127 := Tryz.isAgg201
  z127 := Tryz.sizeOf201
  v127 := Tryz.zeroValue201
  t164 := Tryz.underlying205
  a164 := Tryz.isAgg205
  z164 := Tryz.sizeOf205
  v164 := Tryz.zeroValue205 }
theorem Tryz.Builder_Extra_156 : Builder.Extra Tryz.prog Tryz.lays156_ren := {
  sizeBuilder := by kernel_rfl
  liesBuilder := by kernel_rfl
  t5 := Tryz.underlying5
  a5 := Tryz.isAgg5
  z5 := Tryz.sizeOf5
  v5 := Tryz.zeroValue5
  infoByte := by kernel_rfl
  cellsByte := by kernel_rfl
  sizeByte := by kernel_rfl
  neB5 := by decide }
open Go.RowKit in
theorem Tryz.strings_Join (bk o c : Nat) (xs : List ByteArray) (sep : ByteArray) (w : World) (hcells : ∀ (j : Nat) x, xs[j]? = some x → w.cell? ⟨bk, o + j, none⟩ = some (.string x)) (hbk : bk < w.heap.size) (hN : xs.length ≤ 140737488355328) (hcap : xs.length ≤ c) (hlen : (Lib.join (xs.map (·.data.toList)) sep.data.toList).length ≤ 140737488355328) :
    Calls Tryz.prog 122 #[.slice (some ⟨bk, o, none⟩) xs.length c, .string sep] w fun e w' => e = .returned (.string ⟨(Lib.join (xs.map (·.data.toList)) sep.data.toList).toArray⟩) ∧ Below w.heap.size w w' := Any.strings_Join Tryz.lays156 Tryz.Builder_Extra_156 bk o c xs sep w hcells hbk hN hcap hlen
open Go.RowKit in
theorem Tryz.Builder_String_any_k (B b : Nat) (l : List UInt8) (w : World) (h : Lib.IsBuilderF 186 5 B b (Lib.byteCells l) w) (hBw : B ≤ w.heap.size) :
    Calls Tryz.prog 144 #[.pointer (some ⟨b, 0, none⟩)] w fun e w' => e = .returned (.string ⟨l.toArray⟩) ∧ (Lib.IsBuilderF 186 5 B b (Lib.byteCells l) w' ∧ Below B w w' ∧ Lib.OthersKept 5 (some b) w w') := Any.Builder_String_any_k Tryz.lays169 Tryz.Builder_Extra_169 B b l w h hBw
def Tryz.lays217_ren : Go.Shelf.Ren := ⟨fun | 217 => 164 | 266 => 168 | n => n, fun | 9 => 9 | 5 => 5 | 3 => 3 | n => n, fun | n => n⟩
theorem Tryz.lays217 : Go.Proofs.Lays.n217 Tryz.prog Tryz.lays217_ren := {
  mixed := by kernel_rfl
  f217 := Tryz.func164.trans (congrArg some (by kernel_rfl))
  f266 := Tryz.func168.trans (congrArg some (by kernel_rfl))
  t3 := Tryz.underlying3
  a3 := Tryz.isAgg3
  z3 := Tryz.sizeOf3
  v3 := Tryz.zeroValue3
  t5 := Tryz.underlying5
  a5 := Tryz.isAgg5
  z5 := Tryz.sizeOf5
  v5 := Tryz.zeroValue5
  t9 := Tryz.underlying9
  a9 := Tryz.isAgg9
  z9 := Tryz.sizeOf9
  v9 := Tryz.zeroValue9 }
open Go.RowKit Go.Lib in
theorem Tryz.stringslite_IndexByte (s : ByteArray) (c : Int) (w : World) :
    Calls Tryz.prog 164 #[.string s, .int .u8 c] w fun e w' => e = .returned (.int .i64 (Lib.indexByte s.data.toList c.toNat.toUInt8)) ∧ w' = w := Any.stringslite_IndexByte Tryz.lays217 s c w
def Tryz.lays99_ren : Go.Shelf.Ren := ⟨fun | 99 => 150 | 206 => 158 | n => n, fun | 9 => 9 | 4 => 4 | 3 => 3 | n => n, fun | n => n⟩
theorem Tryz.lays99 : Go.Proofs.Lays.n99 Tryz.prog Tryz.lays99_ren := {
  mixed := by kernel_rfl
  f99 := Tryz.func150.trans (congrArg some (by kernel_rfl))
  f206 := Tryz.func158.trans (congrArg some (by kernel_rfl))
  t3 := Tryz.underlying3
  a3 := Tryz.isAgg3
  z3 := Tryz.sizeOf3
  v3 := Tryz.zeroValue3
  t4 := Tryz.underlying4
  a4 := Tryz.isAgg4
  z4 := Tryz.sizeOf4
  v4 := Tryz.zeroValue4
  t9 := Tryz.underlying9
  a9 := Tryz.isAgg9
  z9 := Tryz.sizeOf9
  v9 := Tryz.zeroValue9 }
open Go.RowKit Go.Lib in
theorem Tryz.strings_HasPrefix (s p : ByteArray) (w : World) :
    Calls Tryz.prog 150 #[.string s, .string p] w fun e w' => e = .returned (.bool (Lib.hasPrefix s.data.toList p.data.toList)) ∧ w' = w := Any.strings_HasPrefix Tryz.lays99 s p w
end Go.Proofs
end
section
namespace Go.Proofs.YtciijpahjjoppaaGreat
open Go.RowKit

/-- Is a text one of some? -/
def isIn (x : ByteArray) (l : List ByteArray) : Bool := l.any fun y => y.toList == x.toList
theorem beq_iff (x y : ByteArray) : (x.toList == y.toList) = true ↔ x = y := by
  rw [beq_iff_eq, ByteArray.toList_eq, ByteArray.toList_eq]
  exact ⟨fun h => ByteArray.ext (Array.ext' h), fun h => by rw [h]⟩
theorem beq_false (x y : ByteArray) : (x.toList == y.toList) = false ↔ x ≠ y := by
  rw [← Bool.not_eq_true, ne_eq, beq_iff]
theorem isIn_iff (x : ByteArray) (l : List ByteArray) : isIn x l = true ↔ x ∈ l := by
  unfold isIn
  rw [List.any_eq_true]
  exact ⟨fun ⟨y, hy, h⟩ => by rw [← (beq_iff y x).1 h]; exact hy, fun h => ⟨x, h, (beq_iff x x).2 rfl⟩⟩
theorem isIn_not (x : ByteArray) (l : List ByteArray) : isIn x l = false ↔ x ∉ l := by rw [← Bool.not_eq_true, isIn_iff]
theorem isIn_congr {x y : ByteArray} {l m : List ByteArray} (h : x ∈ l ↔ y ∈ m) : isIn x l = isIn y m := by
  rw [Bool.eq_iff_iff, isIn_iff, isIn_iff]; exact h
def pasW : List ByteArray := [⟨#[97, 110, 100]⟩, ⟨#[97, 114, 114, 97, 121]⟩, ⟨#[98, 101, 103, 105, 110]⟩, ⟨#[98, 111, 111, 108, 101, 97, 110]⟩, ⟨#[99, 104, 97, 114]⟩, ⟨#[100, 105, 118]⟩, ⟨#[100, 111]⟩, ⟨#[100, 111, 119, 110, 116, 111]⟩, ⟨#[101, 108, 115, 101]⟩, ⟨#[101, 110, 100]⟩, ⟨#[102, 97, 108, 115, 101]⟩, ⟨#[102, 111, 114]⟩, ⟨#[102, 111, 114, 119, 97, 114, 100]⟩, ⟨#[102, 117, 110, 99, 116, 105, 111, 110]⟩, ⟨#[105, 102]⟩, ⟨#[105, 110, 116, 101, 103, 101, 114]⟩, ⟨#[109, 111, 100]⟩, ⟨#[110, 111, 116]⟩, ⟨#[111, 102]⟩, ⟨#[111, 114]⟩, ⟨#[112, 114, 111, 99, 101, 100, 117, 114, 101]⟩, ⟨#[112, 114, 111, 103, 114, 97, 109]⟩, ⟨#[114, 101, 97, 100]⟩, ⟨#[114, 101, 99, 111, 114, 100]⟩, ⟨#[114, 101, 112, 101, 97, 116]⟩, ⟨#[114, 101, 116, 117, 114, 110]⟩, ⟨#[116, 104, 101, 110]⟩, ⟨#[116, 111]⟩, ⟨#[116, 114, 117, 101]⟩, ⟨#[116, 121, 112, 101]⟩, ⟨#[117, 110, 116, 105, 108]⟩, ⟨#[118, 97, 114]⟩, ⟨#[119, 104, 105, 108, 101]⟩, ⟨#[119, 114, 105, 116, 101]⟩]
def ceeW : List ByteArray := [⟨#[98, 111, 111, 108]⟩, ⟨#[99, 104, 97, 114]⟩, ⟨#[100, 111]⟩, ⟨#[100, 111, 119, 110, 116, 111]⟩, ⟨#[101, 108, 115, 101]⟩, ⟨#[102, 97, 108, 115, 101]⟩, ⟨#[102, 111, 114]⟩, ⟨#[103, 101, 116]⟩, ⟨#[105, 102]⟩, ⟨#[105, 110, 116]⟩, ⟨#[109, 97, 105, 110]⟩, ⟨#[112, 114, 111, 103, 114, 97, 109]⟩, ⟨#[112, 117, 116]⟩, ⟨#[114, 101, 116, 117, 114, 110]⟩, ⟨#[115, 116, 114, 117, 99, 116]⟩, ⟨#[116, 111]⟩, ⟨#[116, 114, 117, 101]⟩, ⟨#[117, 110, 116, 105, 108]⟩, ⟨#[117, 112]⟩, ⟨#[118, 111, 105, 100]⟩, ⟨#[119, 104, 105, 108, 101]⟩]
/-- The words of a dialect. -/
def wordsOf (d : Int) : List ByteArray := if d = 0 then pasW else if d = 1 then ceeW else []
theorem wordsOf_0 : wordsOf 0 = pasW := rfl
theorem wordsOf_1 : wordsOf 1 = ceeW := rfl
theorem wordsOf_no (d : Int) (h0 : d ≠ 0) (h1 : d ≠ 1) : wordsOf d = [] := by unfold wordsOf; rw [if_neg h0, if_neg h1]
theorem pas_len : pasW.length = 34 := rfl
theorem cee_len : ceeW.length = 21 := rfl
theorem words_len (d : Int) : (wordsOf d).length ≤ 34 := by
  unfold wordsOf; split
  · rw [pas_len]; omega
  · split
    · rw [cee_len]; omega
    · simp
theorem pas_small : ∀ x ∈ pasW, x.size ≤ 9 := by decide
theorem cee_small : ∀ x ∈ ceeW, x.size ≤ 9 := by decide
theorem words_small (d : Int) : ∀ x ∈ wordsOf d, x.size ≤ 9 := by
  unfold wordsOf; split
  · exact pas_small
  · split
    · exact cee_small
    · simp
theorem pas_no : ∀ x ∈ pasW, (95 : UInt8) ∉ x.data.toList := by decide
theorem cee_no : ∀ x ∈ ceeW, (95 : UInt8) ∉ x.data.toList := by decide

/-- The n-th one of s, s_1, s_2, .. -/
def cand (s : ByteArray) (n : Nat) : ByteArray := if n = 0 then s else ⟨(s.data.toList.take 24 ++ 95 :: Lib.decDigits n).toArray⟩
theorem cand_zero (s : ByteArray) : cand s 0 = s := rfl
theorem cand_succ (s : ByteArray) (n : Nat) : cand s (n + 1) = ⟨(s.data.toList.take 24 ++ 95 :: Lib.decDigits (n + 1)).toArray⟩ := rfl
theorem dd_pos (u : Nat) : 0 < (Lib.decDigits u).length := by
  rw [Lib.decDigits]; split <;> simp
theorem dd_step {u : Nat} (h : ¬ u < 10) : Lib.decDigits u = Lib.decDigits (u / 10) ++ [UInt8.ofNat (48 + u % 10)] := by
  rw [Lib.decDigits, dif_neg h]
theorem ofNat_inj {a b : Nat} (ha : a < 10) (hb : b < 10) (h : UInt8.ofNat (48 + a) = UInt8.ofNat (48 + b)) : a = b := by
  have h2 := congrArg UInt8.toNat h
  simp only [UInt8.toNat_ofNat'] at h2
  omega
theorem dd_inj (a : Nat) : ∀ b, Lib.decDigits a = Lib.decDigits b → a = b := by
  induction a using Nat.strongRecOn with
  | ind a ih =>
    intro b h
    by_cases ha : a < 10
    · by_cases hb : b < 10
      · rw [Lib.decDigits_one ha, Lib.decDigits_one hb] at h
        exact ofNat_inj ha hb (by simpa using h)
      · rw [Lib.decDigits_one ha, dd_step hb] at h
        have h2 := congrArg List.length h
        have h3 := dd_pos (b / 10)
        rw [List.length_append] at h2
        simp only [List.length_singleton] at h2
        omega
    · by_cases hb : b < 10
      · rw [Lib.decDigits_one hb, dd_step ha] at h
        have h2 := congrArg List.length h
        have h3 := dd_pos (a / 10)
        rw [List.length_append] at h2
        simp only [List.length_singleton] at h2
        omega
      · rw [dd_step ha, dd_step hb] at h
        obtain ⟨h1, h2⟩ := List.append_inj' h rfl
        have e1 := ih (a / 10) (by omega) (b / 10) h1
        have e2 := ofNat_inj (a := a % 10) (b := b % 10) (by omega) (by omega) (by simpa using h2)
        omega
theorem cand_inj (s : ByteArray) {a b : Nat} (h : cand s (a + 1) = cand s (b + 1)) : a = b := by
  rw [cand_succ, cand_succ] at h
  have h1 := congrArg (fun x : ByteArray => x.data.toList) h
  simp only [] at h1
  have h2 := List.append_cancel_left h1
  have h3 := dd_inj _ _ (List.cons.inj h2).2
  omega
theorem cand_95 (s : ByteArray) (n : Nat) : (95 : UInt8) ∈ (cand s (n + 1)).data.toList := by
  rw [cand_succ]; simp
theorem cand_noPas (s : ByteArray) (n : Nat) : cand s (n + 1) ∉ wordsOf 0 := fun h => pas_no _ h (cand_95 s n)
theorem cand_noCee (s : ByteArray) (n : Nat) : cand s (n + 1) ∉ wordsOf 1 := fun h => cee_no _ h (cand_95 s n)

/-- What Fresh must not tell. -/
def used (taken : List ByteArray) : List ByteArray := taken ++ (wordsOf 0 ++ wordsOf 1)
theorem mem_used (taken : List ByteArray) (x : ByteArray) : x ∈ used taken ↔ x ∈ taken ∨ x ∈ wordsOf 0 ∨ x ∈ wordsOf 1 := by simp [used]
/-- t is the first one of s, s_1, .. that is not used. -/
def IsFresh (s : ByteArray) (taken : List ByteArray) (t : ByteArray) : Prop := ∃ k, t = cand s k ∧ t ∉ used taken ∧ ∀ j, j < k → cand s j ∈ used taken
theorem IsFresh.uniq {s : ByteArray} {taken : List ByteArray} {t u : ByteArray} (h : IsFresh s taken t) (g : IsFresh s taken u) : t = u := by
  obtain ⟨k, rfl, h1, h2⟩ := h
  obtain ⟨m, rfl, g1, g2⟩ := g
  rcases Nat.lt_trichotomy k m with c | c | c
  · exact absurd (g2 k c) h1
  · rw [c]
  · exact absurd (h2 m c) g1
theorem nodup_le {α : Type} [DecidableEq α] : ∀ (l m : List α), l.Nodup → (∀ x ∈ l, x ∈ m) → l.length ≤ m.length
  | [], m, _, _ => Nat.zero_le _
  | a :: r, m, hn, hs => by
    have h1 := (List.nodup_cons.1 hn)
    have hm := hs a (by simp)
    have ih := nodup_le r (m.erase a) h1.2 (fun x hx => (List.mem_erase_of_ne (fun e => h1.1 (by rw [← e]; exact hx))).2 (hs x (by simp [hx])))
    have hl := List.length_erase_of_mem hm
    have hp := List.length_pos_of_mem hm
    simp
    omega
/-- As many as were told to be used are taken. -/
theorem cand_bound (s : ByteArray) (taken : List ByteArray) (k : Nat) (h : ∀ j, j < k → cand s (j + 1) ∈ used taken) : k ≤ taken.length := by
  have hn : ((List.range k).map fun j => cand s (j + 1)).Nodup := by
    rw [List.nodup_iff_pairwise_ne, List.pairwise_map]
    exact (List.nodup_iff_pairwise_ne.1 List.nodup_range).imp (fun {a b} hne e => hne (cand_inj s e))
  haveI : DecidableEq ByteArray := fun a b => Classical.propDecidable _
  have := nodup_le _ taken hn (fun x hx => by
    obtain ⟨j, hj, rfl⟩ := List.mem_map.1 hx
    rcases (mem_used _ _).1 (h j (List.mem_range.1 hj)) with h1 | h1 | h1
    · exact h1
    · exact absurd h1 (cand_noPas s j)
    · exact absurd h1 (cand_noCee s j))
  simpa using this
theorem fresh_bound {s : ByteArray} {taken : List ByteArray} {k : Nat} (h : ∀ j, j < k → cand s j ∈ used taken) : k ≤ taken.length + 1 := by
  cases k with
  | zero => omega
  | succ m =>
    have := cand_bound s taken m (fun j hj => h (j + 1) (by omega))
    omega
theorem IsFresh.self {s : ByteArray} {taken : List ByteArray} (h : s ∉ used taken) : IsFresh s taken s := ⟨0, rfl, h, fun j hj => by omega⟩
theorem IsFresh.not {s t : ByteArray} {taken : List ByteArray} (h : IsFresh s taken t) : t ∉ used taken := by obtain ⟨k, rfl, h1, _⟩ := h; exact h1
theorem IsFresh.eq_iff {s t : ByteArray} {taken : List ByteArray} (h : IsFresh s taken t) : t = s ↔ s ∉ used taken :=
  ⟨fun e => e ▸ h.not, fun g => h.uniq (IsFresh.self g)⟩
theorem cand_size (s : ByteArray) (n : Nat) (h : n < 100) (hs : s.size ≤ maxLen) : (cand s n).size ≤ maxLen := by
  cases n with
  | zero => exact hs
  | succ m =>
    rw [cand_succ]
    have h2 : (Lib.decDigits (m + 1)).length ≤ 2 := by
      by_cases c : m + 1 < 10
      · rw [Lib.decDigits_one c]; simp
      · rw [Lib.decDigits_two c h]; simp
    show (s.data.toList.take 24 ++ 95 :: Lib.decDigits (m + 1)).toArray.size ≤ maxLen
    have h3 : (s.data.toList.take 24).length ≤ 24 := List.length_take_le _ _
    rw [List.size_toArray, List.length_append, List.length_cons]
    unfold maxLen
    omega

/-- Those names that are words of the dialect, each once. -/
def clash (ws : List ByteArray) (names : List ByteArray) : List ByteArray := names.foldl (fun acc x => if isIn x ws && !isIn x acc then acc ++ [x] else acc) []
theorem clash_nil (ws : List ByteArray) : clash ws [] = [] := rfl
theorem clash_snoc (ws names : List ByteArray) (x : ByteArray) : clash ws (names ++ [x]) = if isIn x ws && !isIn x (clash ws names) then clash ws names ++ [x] else clash ws names := by
  unfold clash; rw [List.foldl_append]; rfl
theorem take_snoc {names : List ByteArray} {k : Nat} {x : ByteArray} (h : names[k]? = some x) : names.take (k + 1) = names.take k ++ [x] := by
  rw [List.take_add_one, h]; rfl
theorem clash_len (ws : List ByteArray) : ∀ names : List ByteArray, (clash ws names).length ≤ names.length := by
  intro names
  suffices h : ∀ (names acc : List ByteArray), (names.foldl (fun acc x => if isIn x ws && !isIn x acc then acc ++ [x] else acc) acc).length ≤ acc.length + names.length by
    have := h names []
    simpa [clash] using this
  intro names
  induction names with
  | nil => intro acc; simp
  | cons a r ih =>
    intro acc
    rw [List.foldl_cons]
    refine Nat.le_trans (ih _) ?_
    split <;> simp <;> omega
theorem clash_mem (ws : List ByteArray) (names : List ByteArray) : ∀ x ∈ clash ws names, x ∈ ws := by
  suffices h : ∀ (names acc : List ByteArray), (∀ x ∈ acc, x ∈ ws) → ∀ x ∈ names.foldl (fun acc x => if isIn x ws && !isIn x acc then acc ++ [x] else acc) acc, x ∈ ws from h names [] (by simp)
  intro names
  induction names with
  | nil => intro acc h; exact h
  | cons a r ih =>
    intro acc h
    rw [List.foldl_cons]
    refine ih _ ?_
    split
    · rename_i c
      intro x hx
      rcases List.mem_append.1 hx with g | g
      · exact h x g
      · rw [List.mem_singleton.1 g]; exact (isIn_iff _ _).1 (by revert c; cases isIn a ws <;> simp)
    · exact h
end Go.Proofs.YtciijpahjjoppaaGreat
end
section
namespace Go.Proofs.YtciijpahjjoppaaGreat
open Go.RowKit

/-- A slice of texts. -/
def IsStrs (w : World) (a : Option Addr) (len cap : Nat) (ss : List ByteArray) : Prop :=
  ss.length = len ∧ len ≤ cap ∧ cap ≤ maxLen ∧ (∀ x ∈ ss, x.size ≤ maxLen) ∧ (len = 0 ∨ ∃ b o, a = some ⟨b, o, none⟩ ∧ b < w.heap.size ∧ ∀ j x, ss[j]? = some x → w.cell? ⟨b, o + j, none⟩ = some (.string x))
theorem IsStrs.kept {w w' : World} {a : Option Addr} {len cap : Nat} {ss : List ByteArray} (h : IsStrs w a len cap ss) (hs : w.heap.size ≤ w'.heap.size) (hb : ∀ b o, a = some ⟨b, o, none⟩ → b < w.heap.size → w'.heap[b]? = w.heap[b]?) : IsStrs w' a len cap ss := by
  obtain ⟨h1, h2, h3, h4, h5⟩ := h
  refine ⟨h1, h2, h3, h4, ?_⟩
  rcases h5 with h5 | ⟨b, o, e, hl, hc⟩
  · exact .inl h5
  · exact .inr ⟨b, o, e, by omega, fun j x hx => (cell_eq (hb b o e hl)).trans (hc j x hx)⟩
theorem IsStrs.below {w w' : World} {a : Option Addr} {len cap : Nat} {ss : List ByteArray} (h : IsStrs w a len cap ss) (hb : Below w.heap.size w w') : IsStrs w' a len cap ss :=
  h.kept hb.size fun b _ _ hl => hb.block b hl
theorem IsStrs.nil (w : World) : IsStrs w none 0 0 [] := ⟨rfl, Nat.le_refl _, by decide, by simp, .inl rfl⟩
theorem IsStrs.len_le {w : World} {a : Option Addr} {len cap : Nat} {ss : List ByteArray} (h : IsStrs w a len cap ss) : len ≤ 9223372036854775807 := by
  have h1 := h.2.1
  have h2 := h.2.2.1
  unfold maxLen at h2
  omega
theorem IsStrs.at {w : World} {a : Option Addr} {len cap : Nat} {ss : List ByteArray} (h : IsStrs w a len cap ss) {k : Nat} (hk : k < len) :
    ∃ b o x, a = some ⟨b, o, none⟩ ∧ ss[k]? = some x ∧ x.size ≤ maxLen ∧ w.cell? ⟨b, o + k, none⟩ = some (.string x) := by
  obtain ⟨x, hx⟩ : ∃ x, ss[k]? = some x := ⟨ss[k]'(by rw [h.1]; exact hk), List.getElem?_eq_getElem _⟩
  rcases h.2.2.2.2 with h00 | ⟨b, o, rfl, hbl, hcell⟩
  · omega
  · exact ⟨b, o, x, rfl, hx, h.2.2.2.1 x (List.mem_of_getElem? hx), hcell k x hx⟩

/-- v is a list of texts of one's own, from the block 'base' on. -/
def OwnS (base : Nat) (w : World) (v : Value) (ss : List ByteArray) : Prop := w.ownsRow base 9 1 v ss.length (ss.map Value.string)
theorem OwnS.nil (base : Nat) (w : World) : OwnS base w (.slice none 0 0) [] := World.ownsRow_nil _ _ _ _
theorem OwnS.lt {base : Nat} {w : World} {v : Value} {ss : List ByteArray} (h : OwnS base w v ss) (k : Nat) (hk : v.ownBlock = some k) : base ≤ k ∧ k < w.heap.size := World.ownsRow.lt h k hk
theorem OwnS.kept {base : Nat} {w w' : World} {v : Value} {ss : List ByteArray} (h : OwnS base w v ss) (hb : ∀ k, v.ownBlock = some k → w'.heap[k]? = w.heap[k]?) : OwnS base w' v ss := by
  refine ⟨h.1, ?_⟩
  rcases h.2 with h4 | ⟨g, cap, cur, hv, hb', hg, r⟩
  · exact .inl h4
  · exact .inr ⟨g, cap, cur, hv, hb', (hb g (by rw [hv]; rfl)).trans hg, r⟩
theorem OwnS.below {base : Nat} {w w' : World} {v : Value} {ss : List ByteArray} (h : OwnS base w v ss) (hb : Below w.heap.size w w') : OwnS base w' v ss :=
  h.kept fun k hk => hb.block k (h.lt k hk).2
theorem OwnS.strs {base : Nat} {w : World} {v : Value} {ss : List ByteArray} (h : OwnS base w v ss) (hs : ∀ x ∈ ss, x.size ≤ maxLen) : ∃ a cap, v = .slice a ss.length cap ∧ IsStrs w a ss.length cap ss := by
  rcases h.2 with ⟨rfl, h4⟩ | ⟨g, cap, cur, rfl, hb', hg, h1, h2, h3, h5⟩
  · have : ss = [] := List.eq_nil_of_length_eq_zero h4
    subst this
    exact ⟨none, 0, rfl, IsStrs.nil _⟩
  · refine ⟨_, cap, rfl, ⟨rfl, h1, h2, hs, .inr ⟨g, 0, rfl, heap_lt hg, fun j x hx => ?_⟩⟩⟩
    have hj := (List.getElem?_eq_some_iff.1 hx).1
    have e1 : cur.toList[j]? = (ss.map Value.string)[j]? := by rw [← h5, List.getElem?_take]; simp [hj]
    have e2 : cur[j]? = some (.string x) := by
      rw [List.getElem?_map, hx] at e1
      simpa using e1
    simp [World.cell?, hg, e2]
theorem OwnS.lit (w : World) (ss : List ByteArray) (hl : ss.length ≤ maxLen) : OwnS w.heap.size (w.alloc (.cells (ss.map Value.string).toArray 9)) (.slice (some ⟨w.heap.size, 0, none⟩) ss.length ss.length) ss :=
  ⟨by simp, .inr ⟨w.heap.size, ss.length, _, rfl, Nat.le_refl _, heap_new _ _, Nat.le_refl _, hl, by simp, List.take_of_length_le (by simp)⟩⟩
theorem isStrs_row {w : World} {n : Nat} {ss : List ByteArray} (hg : w.heap[n]? = some (.cells (ss.map Value.string).toArray 9 (0, 0))) (hl : ss.length ≤ maxLen) (hs : ∀ x ∈ ss, x.size ≤ maxLen) : IsStrs w (some ⟨n, 0, none⟩) ss.length ss.length ss := by
  refine ⟨rfl, Nat.le_refl _, hl, hs, .inr ⟨n, 0, rfl, heap_lt hg, fun j x hx => ?_⟩⟩
  simp [World.cell?, hg, hx]
theorem lit_strs (w : World) (ss : List ByteArray) (hl : ss.length ≤ maxLen) (hs : ∀ x ∈ ss, x.size ≤ maxLen) : IsStrs (w.alloc (.cells (ss.map Value.string).toArray 9)) (some ⟨w.heap.size, 0, none⟩) ss.length ss.length ss := isStrs_row (heap_new _ _) hl hs
theorem words_ok (d : Int) : ∀ x ∈ wordsOf d, x.size ≤ maxLen := fun x hx => by have := words_small d x hx; unfold maxLen; omega

set_option maxHeartbeats 400000 in
set_option maxRecDepth 100000 in
theorem all_pas (w : World) : Calls Tryz.prog 134 #[.int .i64 0] w fun e w' => e = .returned (.slice (some ⟨w.heap.size, 0, none⟩) 34 34) ∧ w' = w.alloc (.cells (pasW.map Value.string).toArray 9) := by
  go_enter Tryz.func134, Tryz.ntmps134
  go_wp2_with fail
  go_ret
  exact ⟨rfl, rfl⟩
set_option maxHeartbeats 400000 in
set_option maxRecDepth 100000 in
theorem all_cee (w : World) : Calls Tryz.prog 134 #[.int .i64 1] w fun e w' => e = .returned (.slice (some ⟨w.heap.size, 0, none⟩) 21 21) ∧ w' = w.alloc (.cells (ceeW.map Value.string).toArray 9) := by
  go_enter Tryz.func134, Tryz.ntmps134
  go_wp2_with fail
  go_ret
  exact ⟨rfl, rfl⟩
set_option maxHeartbeats 400000 in
set_option maxRecDepth 100000 in
theorem all_no (d : Int) (w : World) (h0 : d ≠ 0) (h1 : d ≠ 1) : Calls Tryz.prog 134 #[.int .i64 d] w fun e w' => e = .returned (.slice none 0 0) ∧ w' = w := by
  have e0 : (d == 0) = false := by simpa using h0
  have e1 : (d == 1) = false := by simpa using h1
  go_enter Tryz.func134, Tryz.ntmps134
  go_wp2_with fail
  go_ret
  exact ⟨rfl, rfl⟩
set_option maxHeartbeats 400000 in
set_option maxRecDepth 100000 in
theorem refAll_pas (w : World) : Calls Tryz.prog 117 #[.int .i64 0] w fun e w' => e = .returned (.slice (some ⟨w.heap.size, 0, none⟩) 34 34) ∧ w' = w.alloc (.cells (pasW.map Value.string).toArray 9) := by
  go_enter Tryz.func117, Tryz.ntmps117
  go_wp2_with fail
  go_ret
  exact ⟨rfl, rfl⟩
set_option maxHeartbeats 400000 in
set_option maxRecDepth 100000 in
theorem refAll_cee (w : World) : Calls Tryz.prog 117 #[.int .i64 1] w fun e w' => e = .returned (.slice (some ⟨w.heap.size, 0, none⟩) 21 21) ∧ w' = w.alloc (.cells (ceeW.map Value.string).toArray 9) := by
  go_enter Tryz.func117, Tryz.ntmps117
  go_wp2_with fail
  go_ret
  exact ⟨rfl, rfl⟩
set_option maxHeartbeats 400000 in
set_option maxRecDepth 100000 in
theorem refAll_no (d : Int) (w : World) (h0 : d ≠ 0) (h1 : d ≠ 1) : Calls Tryz.prog 117 #[.int .i64 d] w fun e w' => e = .returned (.slice none 0 0) ∧ w' = w := by
  have e0 : (d == 0) = false := by simpa using h0
  have e1 : (d == 1) = false := by simpa using h1
  go_enter Tryz.func117, Tryz.ntmps117
  go_wp2_with fail
  go_ret
  exact ⟨rfl, rfl⟩
/-- What All leaves. -/
def AllPost (d : Int) (w : World) (e : Ending) (w' : World) : Prop := ∃ v, e = .returned v ∧ OwnS w.heap.size w' v (wordsOf d) ∧ Below w.heap.size w w'
theorem allPost_pas (w : World) : AllPost 0 w (.returned (.slice (some ⟨w.heap.size, 0, none⟩) 34 34)) (w.alloc (.cells (pasW.map Value.string).toArray 9)) :=
  ⟨_, rfl, OwnS.lit w pasW (by rw [pas_len]; decide), (Below.refl _ _).alloc (Nat.le_refl _) _⟩
theorem allPost_cee (w : World) : AllPost 1 w (.returned (.slice (some ⟨w.heap.size, 0, none⟩) 21 21)) (w.alloc (.cells (ceeW.map Value.string).toArray 9)) :=
  ⟨_, rfl, OwnS.lit w ceeW (by rw [cee_len]; decide), (Below.refl _ _).alloc (Nat.le_refl _) _⟩
theorem allPost_no (d : Int) (w : World) (h0 : d ≠ 0) (h1 : d ≠ 1) : AllPost d w (.returned (.slice none 0 0)) w :=
  ⟨_, rfl, by rw [wordsOf_no d h0 h1]; exact OwnS.nil _ _, Below.refl _ _⟩
theorem all_any (d : Int) (w : World) : Calls Tryz.prog 134 #[.int .i64 d] w (AllPost d w) := by
  by_cases h0 : d = 0
  · subst h0
    refine (all_pas w).mono ?_
    rintro e w' ⟨rfl, rfl⟩
    exact allPost_pas w
  · by_cases h1 : d = 1
    · subst h1
      refine (all_cee w).mono ?_
      rintro e w' ⟨rfl, rfl⟩
      exact allPost_cee w
    · refine (all_no d w h0 h1).mono ?_
      rintro e w' ⟨rfl, rfl⟩
      exact allPost_no d _ h0 h1
theorem refAll_any (d : Int) (w : World) : Calls Tryz.prog 117 #[.int .i64 d] w (AllPost d w) := by
  by_cases h0 : d = 0
  · subst h0
    refine (refAll_pas w).mono ?_
    rintro e w' ⟨rfl, rfl⟩
    exact allPost_pas w
  · by_cases h1 : d = 1
    · subst h1
      refine (refAll_cee w).mono ?_
      rintro e w' ⟨rfl, rfl⟩
      exact allPost_cee w
    · refine (refAll_no d w h0 h1).mono ?_
      rintro e w' ⟨rfl, rfl⟩
      exact allPost_no d _ h0 h1

theorem isIn_take_succ {ss : List ByteArray} {k : Nat} {x s : ByteArray} (hx : ss[k]? = some x) (h : isIn s (ss.take k) = false) (hn : (x.toList == s.toList) = false) : isIn s (ss.take (k + 1)) = false := by
  rw [take_snoc hx]
  unfold isIn at h ⊢
  rw [List.any_append, h]
  simpa using hn
theorem isIn_take_hit {ss : List ByteArray} {k : Nat} {x s : ByteArray} (hx : ss[k]? = some x) (hn : (x.toList == s.toList) = true) : isIn s ss = true := by
  rw [isIn_iff, ← (beq_iff x s).1 hn]
  exact List.mem_of_getElem? hx

set_option maxHeartbeats 400000 in
theorem among_any (a : Option Addr) (len cap : Nat) (ss : List ByteArray) (s : ByteArray) (w : World) (hS : IsStrs w a len cap ss) :
    Calls Tryz.prog 56 #[.slice a len cap, .string s] w fun e w' => e = .returned (.bool (isIn s ss)) ∧ w' = w := by
  have HS := Lib.hid hS
  have hcap := hS.len_le
  clear hS
  generalize hr : isIn s ss = r
  have HR := Lib.hid hr
  clear hr
  go_enter Tryz.func56, Tryz.ntmps56
  go_wp2_with fail
  go_loop [5] (fun i => ∃ k : Nat, k ≤ len ∧ i = .int .i64 k ∧ isIn s (ss.take k) = false) (fun i => len - (intOf i).toNat)
  case atStart => exact ⟨0, Nat.zero_le _, rfl, rfl⟩
  case round =>
    obtain ⟨k, hk, rfl, hno⟩ := hrel
    have HN := Lib.hid hno
    clear hno
    by_cases hlt : k < len
    · obtain ⟨b, o, x, rfl, hx, hxs, hc⟩ := HS.out.at hlt
      have HX := Lib.hid hx
      clear hx
      cases hb : x.toList == s.toList with
      | true =>
        have HT := isIn_take_hit HX.out hb
        obtain rfl : r = true := by rw [← HR.out]; exact HT
        clear HT
        go_wp2_with fail
        go_ret
        exact ⟨rfl, rfl⟩
      | false =>
        have HT := Lib.hid (isIn_take_succ HX.out HN.out hb)
        go_wp2_with fail
        go_round
        case rel => exact ⟨k + 1, by omega, by go_num, HT.out⟩
        case measure => simp [intOf]; omega
    · obtain rfl : r = false := by
        rw [← HR.out, ← HN.out, List.take_of_length_le (by rw [HS.out.1]; omega)]
      go_wp2_with fail
      go_ret
      exact ⟨rfl, rfl⟩

set_option maxHeartbeats 400000 in
theorem index_any (a : Option Addr) (len cap : Nat) (ss : List ByteArray) (s : ByteArray) (w : World) (hS : IsStrs w a len cap ss) :
    Calls Tryz.prog 147 #[.slice a len cap, .string s] w fun e w' => ∃ n : Int, e = .returned (.int .i64 n) ∧ decide (0 ≤ n) = isIn s ss ∧ w' = w := by
  have HS := Lib.hid hS
  have hcap := hS.len_le
  clear hS
  generalize hr : isIn s ss = r
  have HR := Lib.hid hr
  clear hr
  go_enter Tryz.func147, Tryz.ntmps147
  go_wp2_with fail
  go_loop [8] (fun i => ∃ k : Nat, k ≤ len ∧ i = .int .i64 k ∧ isIn s (ss.take k) = false) (fun i => len - (intOf i).toNat)
  case atStart => exact ⟨0, Nat.zero_le _, rfl, rfl⟩
  case round =>
    obtain ⟨k, hk, rfl, hno⟩ := hrel
    have HN := Lib.hid hno
    clear hno
    by_cases hlt : k < len
    · obtain ⟨b, o, x, rfl, hx, hxs, hc⟩ := HS.out.at hlt
      have HX := Lib.hid hx
      clear hx
      cases hb0 : x.toList == s.toList with
      | true =>
        have HT := isIn_take_hit HX.out hb0
        have hb : (s.toList == x.toList) = true := by rw [beq_iff, (beq_iff x s).1 hb0]
        clear hb0
        obtain rfl : r = true := by rw [← HR.out]; exact HT
        clear HT
        go_wp2_with fail
        go_ret
        exact ⟨_, rfl, by simp, rfl⟩
      | false =>
        have HT := Lib.hid (isIn_take_succ HX.out HN.out hb0)
        have hb : (s.toList == x.toList) = false := by rw [beq_false]; exact fun e => (beq_false x s).1 hb0 e.symm
        clear hb0
        go_wp2_with fail
        go_round
        case rel => exact ⟨k + 1, by omega, by go_num, HT.out⟩
        case measure => simp [intOf]; omega
    · obtain rfl : r = false := by
        rw [← HR.out, ← HN.out, List.take_of_length_le (by rw [HS.out.1]; omega)]
      go_wp2_with fail
      go_ret
      exact ⟨_, rfl, by decide, rfl⟩

set_option maxHeartbeats 400000 in
theorem contains_any (a : Option Addr) (len cap : Nat) (ss : List ByteArray) (s : ByteArray) (w : World) (hS : IsStrs w a len cap ss) :
    Calls Tryz.prog 133 #[.slice a len cap, .string s] w fun e w' => e = .returned (.bool (isIn s ss)) ∧ w' = w := by
  have HS := Lib.hid hS
  clear hS
  generalize hr : isIn s ss = r
  have HR := Lib.hid hr
  clear hr
  go_enter Tryz.func133, Tryz.ntmps133
  go_wp2_with fail
  refine (index_any a len cap ss s _ HS.out).mono ?_
  rintro e w' ⟨n, rfl, hn, rfl⟩
  rw [HR.out] at hn
  cases r with
  | true =>
    have h0 : 0 ≤ n := by simpa using hn
    clear hn
    go_wp2_with fail
    go_ret
    exact ⟨rfl, rfl⟩
  | false =>
    go_wp2_with fail
    go_ret
    exact ⟨by rw [← hn]; rfl, rfl⟩

set_option maxHeartbeats 400000 in
theorem is_any (d : Int) (s : ByteArray) (w : World) :
    Calls Tryz.prog 102 #[.int .i64 d, .string s] w fun e w' => e = .returned (.bool (isIn s (wordsOf d))) ∧ Below w.heap.size w w' := by
  go_enter Tryz.func102, Tryz.ntmps102
  go_wp2_with fail
  refine (all_any d _).mono ?_
  rintro e w1 ⟨v, rfl, ho, hb⟩
  obtain ⟨a, cap, rfl, hS⟩ := ho.strs (words_ok d)
  have HS := Lib.hid hS
  have HB := Lib.hid hb
  clear hS hb ho
  go_wp2_with fail
  refine (contains_any _ _ _ _ s _ HS.out).mono ?_
  rintro e w2 ⟨rfl, rfl⟩
  go_wp2_with fail
  go_ret
  exact ⟨rfl, HB.out⟩
set_option maxHeartbeats 400000 in
theorem refIs_any (d : Int) (s : ByteArray) (w : World) :
    Calls Tryz.prog 77 #[.int .i64 d, .string s] w fun e w' => e = .returned (.bool (isIn s (wordsOf d))) ∧ Below w.heap.size w w' := by
  go_enter Tryz.func77, Tryz.ntmps77
  go_wp2_with fail
  refine (refAll_any d _).mono ?_
  rintro e w1 ⟨v, rfl, ho, hb⟩
  obtain ⟨a, cap, rfl, hS⟩ := ho.strs (words_ok d)
  have HS := Lib.hid hS
  have HB := Lib.hid hb
  clear hS hb ho
  go_wp2_with fail
  refine (among_any _ _ _ _ s _ HS.out).mono ?_
  rintro e w2 ⟨rfl, rfl⟩
  go_wp2_with fail
  go_ret
  exact ⟨rfl, HB.out⟩

/-- The same texts? -/
def sameL (xs ys : List ByteArray) : Bool := decide (xs.map (·.toList) = ys.map (·.toList))
theorem sameL_iff (xs ys : List ByteArray) : sameL xs ys = true ↔ xs = ys := by
  unfold sameL
  rw [decide_eq_true_iff]
  refine ⟨fun h => ?_, fun h => by rw [h]⟩
  apply List.ext_getElem?
  intro i
  have h1 := congrArg (fun l : List (List UInt8) => l[i]?) h
  simp only [List.getElem?_map] at h1
  cases hx : xs[i]? with
  | none => rw [hx] at h1; cases hy : ys[i]? with
    | none => rfl
    | some y => rw [hy] at h1; simp at h1
  | some x => rw [hx] at h1; cases hy : ys[i]? with
    | none => rw [hy] at h1; simp at h1
    | some y => rw [hy] at h1; simp at h1; rw [(beq_iff x y).1 (by simpa using h1)]
theorem sameL_refl (xs : List ByteArray) : sameL xs xs = true := (sameL_iff _ _).2 rfl
theorem sameL_no {xs ys : List ByteArray} (h : xs ≠ ys) : sameL xs ys = false := by
  rw [← Bool.not_eq_true, sameL_iff]; exact h

set_option maxHeartbeats 400000 in
theorem sameTexts_any (a a' : Option Addr) (len cap len' cap' : Nat) (xs ys : List ByteArray) (w : World) (hS : IsStrs w a len cap xs) (hS' : IsStrs w a' len' cap' ys) :
    Calls Tryz.prog 18 #[.slice a len cap, .slice a' len' cap'] w fun e w' => e = .returned (.bool (sameL xs ys)) ∧ ∃ n, w' = w.drewN n := by
  have HS := Lib.hid hS
  have HS' := Lib.hid hS'
  have hcap := hS.len_le
  have hcap' := hS'.len_le
  clear hS hS'
  generalize hr : sameL xs ys = r
  have HR := Lib.hid hr
  clear hr
  by_cases hl : len = len'
  · subst hl
    go_enter Tryz.func18, Tryz.ntmps18
    go_wp2_with fail
    go_loopw [5] (fun i wr => ∃ k n : Nat, k ≤ len ∧ i = .int .i64 k ∧ xs.take k = ys.take k ∧ wr = w.drewN n) (fun i _ => len - (intOf i).toNat)
    case atStart => exact ⟨0, 0, Nat.zero_le _, rfl, rfl, rfl⟩
    case round =>
      obtain ⟨k, n, hk, rfl, hno, rfl⟩ := hrel
      have HN := Lib.hid hno
      clear hno
      by_cases hlt : k < len
      · obtain ⟨b, o, x, rfl, hx, hxs, hc⟩ := HS.out.at hlt
        obtain ⟨b', o', y, rfl, hy, hys, hc'⟩ := HS'.out.at hlt
        have HX := Lib.hid hx
        have HY := Lib.hid hy
        clear hx hy
        cases hb : x.toList == y.toList with
        | true =>
          have HT : xs.take (k + 1) = ys.take (k + 1) := by rw [take_snoc HX.out, take_snoc HY.out, HN.out, (beq_iff x y).1 hb]
          have HT := Lib.hid HT
          go_wp2_with fail
          go_quiet (fail)
          go_wp2_with fail
          go_roundw
          case rel => exact ⟨k + 1, _, by omega, by go_num, HT.out, by first | rfl | exact World.drewN_drewN _ _ _⟩
          case measure => simp [intOf]; omega
        | false =>
          obtain rfl : r = false := by
            rw [← HR.out]
            refine sameL_no fun e => (beq_false x y).1 hb ?_
            have := HX.out
            rw [e, HY.out] at this
            exact (Option.some.inj this).symm
          go_wp2_with fail
          go_quiet (fail)
          go_wp2_with fail
          go_ret
          exact ⟨rfl, _, by first | rfl | exact World.drewN_drewN _ _ _⟩
      · obtain rfl : r = true := by
          rw [← HR.out, sameL_iff]
          have := HN.out
          rw [List.take_of_length_le (by rw [HS.out.1]; omega), List.take_of_length_le (by rw [HS'.out.1]; omega)] at this
          exact this
        go_wp2_with fail
        go_ret
        exact ⟨rfl, _, rfl⟩
  · obtain rfl : r = false := by
      rw [← HR.out]
      refine sameL_no fun e => hl ?_
      rw [← HS.out.1, ← HS'.out.1, e]
    have hne : ((len : Int) == (len' : Int)) = false := by simp; omega
    go_enter Tryz.func18, Tryz.ntmps18
    go_wp2_with fail
    go_ret
    exact ⟨rfl, 0, rfl⟩
end Go.Proofs.YtciijpahjjoppaaGreat
end
section
namespace Go.Proofs.YtciijpahjjoppaaGreat
open Go.RowKit

def bt (s : ByteArray) (k : Nat) : UInt8 := s.data.toList.getD k 0
theorem bt_eq (s : ByteArray) (k : Nat) (h : k < s.size) : s[k] = bt s k := by
  unfold bt
  rw [List.getD_eq_getElem?_getD, List.getElem?_eq_getElem (by simpa using h)]; rfl
def beg (c : UInt8) : Bool := decide (97 ≤ c.toNat) && decide (c.toNat ≤ 122)
def goOn (c : UInt8) : Bool := decide (c.toNat = 95) || (decide (48 ≤ c.toNat) && decide (c.toNat ≤ 57))
def letter (c : UInt8) (f : Bool) : Bool := beg c || (!f && goOn c)
/-- Spelt as a name. -/
def spelt (s : ByteArray) : Bool := decide (0 < s.size) && (List.range s.size).all fun j => letter (bt s j) (decide (j = 0))
theorem spelt_iff (s : ByteArray) : spelt s = true ↔ 0 < s.size ∧ ∀ j, j < s.size → letter (bt s j) (decide (j = 0)) = true := by
  unfold spelt
  rw [Bool.and_eq_true, decide_eq_true_iff, List.all_eq_true]
  simp only [List.mem_range]
def chk (s : ByteArray) : Nat := if spelt s then (if 32 < s.size then 3 else 0) else 11

theorem toNat_lt (c : UInt8) : c.toNat < 256 := c.toNat_lt
set_option maxHeartbeats 400000 in
theorem mayBegin_any (c : UInt8) (w : World) : Calls Tryz.prog 145 #[.int .u8 (c.toNat : Int)] w fun e w' => e = .returned (.bool (beg c)) ∧ w' = w := by
  unfold beg
  have hc := toNat_lt c
  generalize c.toNat = n at *
  by_cases h1 : 97 ≤ n
  · by_cases h2 : n ≤ 122
    · have d1 : decide ((97 : Int) ≤ (n : Int)) = true := by simp; omega
      have d2 : decide ((n : Int) ≤ (122 : Int)) = true := by simp; omega
      rw [show (decide (97 ≤ n) && decide (n ≤ 122)) = true by simp [h1, h2]]
      go_enter Tryz.func145, Tryz.ntmps145
      go_wp2_with fail
      go_ret
      exact ⟨rfl, rfl⟩
    · have d1 : decide ((97 : Int) ≤ (n : Int)) = true := by simp; omega
      have d2 : decide ((n : Int) ≤ (122 : Int)) = false := by simp; omega
      rw [show (decide (97 ≤ n) && decide (n ≤ 122)) = false by simp [h1, h2]]
      go_enter Tryz.func145, Tryz.ntmps145
      go_wp2_with fail
      go_ret
      exact ⟨rfl, rfl⟩
  · have d1 : decide ((97 : Int) ≤ (n : Int)) = false := by simp; omega
    rw [show (decide (97 ≤ n) && decide (n ≤ 122)) = false by simp [h1]]
    go_enter Tryz.func145, Tryz.ntmps145
    go_wp2_with fail
    go_ret
    exact ⟨rfl, rfl⟩
theorem int_beq_yes {n : Nat} {m : Nat} (h : n = m) : ((n : Int) == (m : Int)) = true := by simp; omega
theorem int_beq_no {n : Nat} {m : Nat} (h : n ≠ m) : ((n : Int) == (m : Int)) = false := by simp; omega
set_option maxHeartbeats 400000 in
theorem mayGoOn_any (c : UInt8) (w : World) : Calls Tryz.prog 146 #[.int .u8 (c.toNat : Int)] w fun e w' => e = .returned (.bool (goOn c)) ∧ w' = w := by
  unfold goOn
  have hc := toNat_lt c
  generalize c.toNat = n at *
  by_cases h0 : n = 95
  · subst h0
    rw [show (decide (95 = 95) || (decide (48 ≤ 95) && decide (95 ≤ 57))) = true by decide]
    go_enter Tryz.func146, Tryz.ntmps146
    go_wp2_with fail
    go_ret
    exact ⟨rfl, rfl⟩
  · have d0 : ((n : Int) == (95 : Int)) = false := int_beq_no (m := 95) h0
    by_cases h1 : 48 ≤ n
    · have d1 : decide ((48 : Int) ≤ (n : Int)) = true := by simp; omega
      by_cases h2 : n ≤ 57
      · have d2 : decide ((n : Int) ≤ (57 : Int)) = true := by simp; omega
        rw [show (decide (n = 95) || (decide (48 ≤ n) && decide (n ≤ 57))) = true by simp [h1, h2]]
        clear h0
        go_enter Tryz.func146, Tryz.ntmps146
        go_wp2_with fail
        go_ret
        exact ⟨rfl, rfl⟩
      · have d2 : decide ((n : Int) ≤ (57 : Int)) = false := by simp; omega
        rw [show (decide (n = 95) || (decide (48 ≤ n) && decide (n ≤ 57))) = false by simp [h0, h2]]
        clear h0
        go_enter Tryz.func146, Tryz.ntmps146
        go_wp2_with fail
        go_ret
        exact ⟨rfl, rfl⟩
    · have d1 : decide ((48 : Int) ≤ (n : Int)) = false := by simp; omega
      rw [show (decide (n = 95) || (decide (48 ≤ n) && decide (n ≤ 57))) = false by simp [h0, h1]]
      clear h0
      go_enter Tryz.func146, Tryz.ntmps146
      go_wp2_with fail
      go_ret
      exact ⟨rfl, rfl⟩
set_option maxHeartbeats 800000 in
theorem letter_any (c : UInt8) (f : Bool) (w : World) : Calls Tryz.prog 116 #[.int .u8 (c.toNat : Int), .bool f] w fun e w' => e = .returned (.bool (letter c f)) ∧ w' = w := by
  unfold letter beg goOn
  have hc := toNat_lt c
  generalize c.toNat = n at *
  have fin : ∀ r : Bool, (decide ((97 : Int) ≤ (n : Int)) = true ∧ decide ((n : Int) ≤ 122) = true) → r = true → Calls Tryz.prog 116 #[.int .u8 (n : Int), .bool f] w fun e w' => e = .returned (.bool r) ∧ w' = w := by
    intro r ⟨d1, d2⟩ hr
    subst hr
    go_enter Tryz.func116, Tryz.ntmps116
    go_wp2_with fail
    go_ret
    exact ⟨rfl, rfl⟩
  by_cases hb : 97 ≤ n ∧ n ≤ 122
  · exact fin _ ⟨by simp; omega, by simp; omega⟩ (by simp [hb.1, hb.2])
  · clear fin
    have eb : (decide (97 ≤ n) && decide (n ≤ 122)) = false := by
      rw [← Bool.not_eq_true, Bool.and_eq_true, decide_eq_true_iff, decide_eq_true_iff]; exact hb
    rw [eb, Bool.false_or]
    have tail : ∀ r : Bool, (decide ((97 : Int) ≤ (n : Int)) = false ∨ (decide ((97 : Int) ≤ (n : Int)) = true ∧ decide ((n : Int) ≤ 122) = false)) →
        (f = true ∧ r = false ∨ f = false ∧ (((n : Int) == 95) = true ∧ r = true ∨ ((n : Int) == 95) = false ∧ (decide ((48 : Int) ≤ (n : Int)) = false ∧ r = false ∨ decide ((48 : Int) ≤ (n : Int)) = true ∧ decide ((n : Int) ≤ 57) = r))) →
        Calls Tryz.prog 116 #[.int .u8 (n : Int), .bool f] w fun e w' => e = .returned (.bool r) ∧ w' = w := by
      intro r h1 h2
      rcases h1 with d1 | ⟨d1, d2⟩ <;> rcases h2 with ⟨rfl, rfl⟩ | ⟨rfl, ⟨d3, rfl⟩ | ⟨d3, ⟨d4, rfl⟩ | ⟨d4, d5⟩⟩⟩
      all_goals
        go_enter Tryz.func116, Tryz.ntmps116
        go_wp2_with fail
        go_ret
        first | exact ⟨rfl, rfl⟩ | exact ⟨by rw [← d5]; rfl, rfl⟩
    refine tail _ ?_ ?_
    · by_cases h1 : 97 ≤ n
      · exact .inr ⟨by simp; omega, by simp; omega⟩
      · exact .inl (by simp; omega)
    · cases f with
      | true => exact .inl ⟨rfl, rfl⟩
      | false =>
        refine .inr ⟨rfl, ?_⟩
        by_cases h0 : n = 95
        · exact .inl ⟨int_beq_yes (m := 95) h0, by simp [h0]⟩
        · refine .inr ⟨int_beq_no (m := 95) h0, ?_⟩
          by_cases h1 : 48 ≤ n
          · refine .inr ⟨by simp; omega, ?_⟩
            simp [h0, h1]
            omega
          · exact .inl ⟨by simp; omega, by simp [h0, h1]⟩

theorem ba_empty (s : ByteArray) (h : s.size = 0) : s = ⟨#[]⟩ := by
  cases s with
  | mk d => congr; exact Array.eq_empty_of_size_eq_zero h
theorem toList_ne (s : ByteArray) (h : 0 < s.size) : ¬ s.toList = [] := by
  rw [ByteArray.toList_eq]
  intro e
  have : s.data.toList.length = s.size := by simp
  rw [e] at this
  simp at this
  omega
/-- The first k bytes are as a name's. -/
def speltTo (s : ByteArray) (k : Nat) : Prop := ∀ j, j < k → letter (bt s j) (decide (j = 0)) = true
theorem speltTo_succ {s : ByteArray} {k : Nat} (h : speltTo s k) (g : letter (bt s k) (decide (k = 0)) = true) : speltTo s (k + 1) := fun j hj => by
  by_cases e : j = k
  · rw [e]; exact g
  · exact h j (by omega)
theorem spelt_hit {s : ByteArray} {k : Nat} (hk : k < s.size) (g : letter (bt s k) (decide (k = 0)) = false) : spelt s = false := by
  rw [← Bool.not_eq_true, spelt_iff]
  intro h
  rw [h.2 k hk] at g
  cases g
theorem spelt_end {s : ByteArray} (h : speltTo s s.size) : spelt s = decide (0 < s.size) := by
  cases hd : decide (0 < s.size) with
  | true => rw [spelt_iff]; exact ⟨by simpa using hd, h⟩
  | false =>
    rw [← Bool.not_eq_true, spelt_iff]
    intro g
    have : ¬ 0 < s.size := by simpa using hd
    exact this g.1

set_option maxHeartbeats 800000 in
theorem spelt_any (s : ByteArray) (w : World) (hs : s.size ≤ maxLen) : Calls Tryz.prog 132 #[.string s] w fun e w' => e = .returned (.bool (spelt s)) ∧ w' = w := by
  unfold maxLen at hs
  generalize hr : spelt s = r
  have HR := Lib.hid hr
  clear hr
  go_enter Tryz.func132, Tryz.ntmps132
  go_wp2_with fail
  go_loop [6] (fun i => ∃ k : Nat, k ≤ s.size ∧ i = .int .i64 k ∧ speltTo s k) (fun i => s.size - (intOf i).toNat)
  case atStart => exact ⟨0, Nat.zero_le _, rfl, fun j hj => by omega⟩
  case round =>
    obtain ⟨k, hk, rfl, hno⟩ := hrel
    have HN := Lib.hid hno
    clear hno
    by_cases hlt : k < s.size
    · have HE := Lib.hid (bt_eq s k hlt)
      go_wp2_with fail
      refine (mayBegin_any s[k] _).mono ?_
      rintro e w1 ⟨rfl, rfl⟩
      cases hb : beg s[k] with
      | true =>
        have HL : letter (bt s k) (decide (k = 0)) = true := by unfold letter; rw [← HE.out, hb]; rfl
        have HT := Lib.hid (speltTo_succ HN.out HL)
        clear HL hb
        go_wp2_with fail
        go_round
        case rel => exact ⟨k + 1, by omega, by go_num, HT.out⟩
        case measure => simp [intOf]; omega
      | false =>
        by_cases h0 : k = 0
        · subst h0
          have HL : letter (bt s 0) (decide (0 = 0)) = false := by unfold letter; rw [← HE.out, hb]; rfl
          have HF := spelt_hit hlt HL
          rw [HR.out] at HF
          subst HF
          clear HL hb
          go_wp2_with fail
          go_ret
          exact ⟨rfl, rfl⟩
        · have e0 : ((k : Int) == 0) = false := int_beq_no (m := 0) h0
          have L : letter (bt s k) (decide (k = 0)) = goOn s[k] := by unfold letter; rw [← HE.out, hb]; simp [h0]
          have HL := Lib.hid L
          clear L hb h0
          go_wp2_with fail
          refine (mayGoOn_any s[k] _).mono ?_
          rintro e w1 ⟨rfl, rfl⟩
          cases hg : goOn s[k] with
          | true =>
            have HT := Lib.hid (speltTo_succ HN.out (HL.out.trans hg))
            clear hg
            go_wp2_with fail
            go_round
            case rel => exact ⟨k + 1, by omega, by go_num, HT.out⟩
            case measure => simp [intOf]; omega
          | false =>
            have HF := spelt_hit hlt (HL.out.trans hg)
            rw [HR.out] at HF
            subst HF
            clear hg
            go_wp2_with fail
            go_ret
            exact ⟨rfl, rfl⟩
    · have hk2 : k = s.size := by omega
      subst hk2
      have HF := spelt_end HN.out
      rw [HR.out] at HF
      by_cases hp : 0 < s.size
      · obtain rfl : r = true := by rw [HF]; simpa using hp
        have hne := toList_ne s hp
        have hne' : (!s.toList.isEmpty) = true := by simp [hne]
        clear HF
        go_wp2_with fail
        go_ret
        exact ⟨rfl, rfl⟩
      · have h0 := ba_empty s (by omega)
        subst h0
        obtain rfl : r = false := by rw [HF]; rfl
        clear HF
        go_wp2_with fail
        go_ret
        exact ⟨rfl, rfl⟩

set_option maxHeartbeats 400000 in
theorem check_any (s : ByteArray) (w : World) (hs : s.size ≤ maxLen) : Calls Tryz.prog 101 #[.string s] w fun e w' => e = .returned (.int .i64 (chk s : Nat)) ∧ w' = w := by
  generalize hr : chk s = r
  unfold chk at hr
  have HR := Lib.hid hr
  clear hr
  go_enter Tryz.func101, Tryz.ntmps101
  go_wp2_with fail
  refine (spelt_any s _ hs).mono ?_
  unfold maxLen at hs
  rintro e w1 ⟨rfl, rfl⟩
  have H := HR.out
  cases hsp : spelt s with
  | false =>
    rw [hsp] at H
    obtain rfl : 11 = r := H
    clear hsp
    go_wp2_with fail
    go_ret
    exact ⟨rfl, rfl⟩
  | true =>
    rw [hsp, if_pos rfl] at H
    by_cases h : 32 < s.size
    · rw [if_pos h] at H
      subst H
      clear hsp
      go_wp2_with fail
      go_ret
      exact ⟨rfl, rfl⟩
    · rw [if_neg h] at H
      subst H
      clear hsp
      go_wp2_with fail
      go_ret
      exact ⟨rfl, rfl⟩

set_option maxHeartbeats 800000 in
theorem refCheck_any (s : ByteArray) (w : World) (hs : s.size ≤ maxLen) : Calls Tryz.prog 76 #[.string s] w fun e w' => e = .returned (.int .i64 (chk s : Nat)) ∧ w' = w := by
  unfold maxLen at hs
  by_cases hz : 0 < s.size
  · generalize hr : chk s = r
    have HR := Lib.hid hr
    clear hr
    have hne := toList_ne s hz
    have hne' : s.toList.isEmpty = false := by simp [hne]
    go_enter Tryz.func76, Tryz.ntmps76
    go_wp2_with fail
    go_loop [3] (fun i => ∃ k : Nat, k ≤ s.size ∧ i = .int .i64 k ∧ speltTo s k) (fun i => s.size - (intOf i).toNat)
    case atStart => exact ⟨0, Nat.zero_le _, rfl, fun j hj => by omega⟩
    case round =>
      obtain ⟨k, hk, rfl, hno⟩ := hrel
      have HN := Lib.hid hno
      clear hno
      by_cases hlt : k < s.size
      · have HE := Lib.hid (bt_eq s k hlt)
        obtain ⟨f, hf, hf2⟩ : ∃ f, ((k : Int) == 0) = f ∧ decide (k = 0) = f := by
          by_cases h0 : k = 0
          · exact ⟨true, int_beq_yes (m := 0) h0, by simpa using h0⟩
          · exact ⟨false, int_beq_no (m := 0) h0, by simpa using h0⟩
        have HF := Lib.hid hf2
        clear hf2
        go_wp2_with fail
        refine (letter_any s[k] f _).mono ?_
        rintro e w1 ⟨rfl, rfl⟩
        cases hl : letter s[k] f with
        | true =>
          have HT := Lib.hid (speltTo_succ HN.out (by rw [← HE.out, HF.out]; exact hl))
          clear hl
          go_wp2_with fail
          go_round
          case rel => exact ⟨k + 1, by omega, by go_num, HT.out⟩
          case measure => simp [intOf]; omega
        | false =>
          have HS := spelt_hit hlt (by rw [← HE.out, HF.out]; exact hl)
          obtain rfl : r = 11 := by rw [← HR.out]; unfold chk; rw [HS]; rfl
          clear hl HS
          go_wp2_with fail
          go_ret
          exact ⟨rfl, rfl⟩
      · have hk2 : k = s.size := by omega
        subst hk2
        have HF := spelt_end HN.out
        rw [show decide (0 < s.size) = true by simpa using hz] at HF
        have H2 := HR.out
        unfold chk at H2
        rw [if_pos HF] at H2
        clear HF
        by_cases h : 32 < s.size
        · rw [if_pos h] at H2
          subst H2
          go_wp2_with fail
          go_ret
          exact ⟨rfl, rfl⟩
        · rw [if_neg h] at H2
          subst H2
          go_wp2_with fail
          go_ret
          exact ⟨rfl, rfl⟩
  · have h0 := ba_empty s (by omega)
    subst h0
    rw [show chk ⟨#[]⟩ = 11 from rfl]
    go_enter Tryz.func76, Tryz.ntmps76
    go_wp2_with fail
    go_ret
    exact ⟨rfl, rfl⟩
end Go.Proofs.YtciijpahjjoppaaGreat
end
section
namespace Go.Proofs.YtciijpahjjoppaaGreat
open Go.RowKit Go.Deep

theorem ba_eq_iff (a b : ByteArray) : (a.toList == b.toList) = true ↔ a = b := by
  constructor
  · intro h
    have h' : a.toList = b.toList := by simpa using h
    rw [ByteArray.toList_eq, ByteArray.toList_eq] at h'
    cases a; cases b
    simp_all
  · rintro rfl; simp
theorem box_first (w : World) (a b : Obj) : ((w.alloc a).alloc b).heap[w.heap.size]? = some a := by
  rw [((Below.refl (w.alloc a).heap.size (w.alloc a)).alloc (Nat.le_refl _) b).block _ (by simp)]
  exact heap_new w a
theorem box_second (w : World) (a b : Obj) : ((w.alloc a).alloc b).heap[w.heap.size + 1]? = some b := by
  have := heap_new (w.alloc a) b
  rwa [World.size_alloc] at this
def nth (z : List D) (i : Nat) : D := z.getD i (.int 0)
theorem same_neq {α : Type} {x y : α} (h : same x y = false) : x ≠ y := fun e => by
  subst e
  rw [same_refl] at h
  cases h
end Go.Proofs.YtciijpahjjoppaaGreat
end
section
namespace Go.Proofs.YtciijpahjjoppaaGreat
open Go.RowKit Go.Deep

def splitD : List UInt8 → List (List UInt8)
  | [] => [[]]
  | c :: r => if c = 36 then [] :: splitD r else match splitD r with
    | h :: t => (c :: h) :: t
    | [] => [[c]]
theorem splitD_ne (l : List UInt8) : splitD l ≠ [] := by
  cases l with
  | nil => simp [splitD]
  | cons c r =>
    unfold splitD
    split
    · simp
    · split <;> simp
theorem splitD_cons_no {c : UInt8} {r : List UInt8} (h : c ≠ 36) : ∃ p t, splitD r = p :: t ∧ splitD (c :: r) = (c :: p) :: t := by
  cases e : splitD r with
  | nil => exact absurd e (splitD_ne r)
  | cons p t => exact ⟨p, t, rfl, by rw [splitD, if_neg h, e]⟩
theorem splitD_miss (l : List UInt8) (h : Lib.indexByte l 36 = -1) : splitD l = [l] := by
  induction l with
  | nil => rfl
  | cons c r ih =>
    unfold Lib.indexByte at h
    split at h
    · simp at h
    · rename_i hc
      have hc' : c ≠ 36 := by simpa using hc
      split at h
      · rename_i h1
        obtain ⟨p, t, e1, e2⟩ := splitD_cons_no (r := r) hc'
        rw [ih (by simpa using h1)] at e1
        simp at e1
        rw [e2, ← e1.1, ← e1.2]
      · have := Lib.indexByte_ge r 36
        rename_i h1
        have h1' : Lib.indexByte r 36 ≠ -1 := by simpa using h1
        omega
theorem splitD_hit (l : List UInt8) (i : Nat) (h : Lib.indexByte l 36 = i) : i < l.length ∧ splitD l = l.take i :: splitD (l.drop (i + 1)) := by
  induction l generalizing i with
  | nil => simp [Lib.indexByte] at h
  | cons c r ih =>
    unfold Lib.indexByte at h
    split at h
    · rename_i hc
      have hc' : c = 36 := by simpa using hc
      obtain rfl : i = 0 := by omega
      subst hc'
      exact ⟨by simp, by simp [splitD]⟩
    · rename_i hc
      have hc' : c ≠ 36 := by simpa using hc
      split at h
      · omega
      · have := Lib.indexByte_ge r 36
        rename_i h1
        have h1' : Lib.indexByte r 36 ≠ -1 := by simpa using h1
        obtain ⟨j, hj⟩ := Int.eq_ofNat_of_zero_le (show 0 ≤ Lib.indexByte r 36 by omega)
        obtain rfl : i = j + 1 := by omega
        obtain ⟨h2, h3⟩ := ih j hj
        obtain ⟨p, t, e1, e2⟩ := splitD_cons_no (r := r) hc'
        rw [h3] at e1
        simp at e1
        exact ⟨by simp; omega, by rw [e2, ← e1.1, ← e1.2]; simp⟩
def ba (l : List UInt8) : ByteArray := ⟨l.toArray⟩
theorem ba_data (s : ByteArray) : ba s.data.toList = s := by cases s; simp [ba]
theorem ba_list (l : List UInt8) : (ba l).data.toList = l := by simp [ba]
theorem ba_size (l : List UInt8) : (ba l).size = l.length := by simp [ba, ByteArray.size]
/-- A text's parts. -/
def parts (s : ByteArray) : List ByteArray := (splitD s.data.toList).map ba
theorem splitD_len (l : List UInt8) : (splitD l).length ≤ l.length + 1 := by
  induction l with
  | nil => simp [splitD]
  | cons c r ih =>
    unfold splitD
    split
    · simp; omega
    · split
      · rename_i h
        rw [h] at ih
        simp at ih ⊢
        omega
      · simp
theorem splitD_mem (l : List UInt8) : ∀ p ∈ splitD l, p.length ≤ l.length := by
  induction l with
  | nil => simp [splitD]
  | cons c r ih =>
    intro p hp
    unfold splitD at hp
    split at hp
    · rcases List.mem_cons.1 hp with rfl | hp
      · simp
      · have := ih p hp; simp; omega
    · split at hp
      · rename_i h t e
        rcases List.mem_cons.1 hp with rfl | hp
        · have := ih h (by rw [e]; simp); simp; omega
        · have := ih p (by rw [e]; simp [hp]); simp; omega
      · rename_i e
        exact absurd e (splitD_ne r)
theorem parts_len (s : ByteArray) : (parts s).length ≤ s.size + 1 := by
  have h := splitD_len s.data.toList
  unfold parts
  rw [List.length_map]
  exact h
theorem parts_mem (s : ByteArray) : ∀ p ∈ parts s, p.size ≤ s.size := fun p hp => by
  obtain ⟨q, hq, rfl⟩ := List.mem_map.1 hp
  have := splitD_mem s.data.toList q hq
  rw [ba_size]
  exact this
theorem parts_ne (s : ByteArray) : parts s ≠ [] := by simp [parts, splitD_ne]

def dollar : ByteArray := ⟨#[36]⟩
/-- What Cut tells. -/
def cutD (s : ByteArray) : ByteArray × ByteArray × Bool :=
  if Lib.indexByte s.data.toList 36 = -1 then (s, ⟨#[]⟩, false) else (ba (s.data.toList.take (Lib.indexByte s.data.toList 36).toNat), ba (s.data.toList.drop ((Lib.indexByte s.data.toList 36).toNat + 1)), true)

set_option maxRecDepth 100000 in
set_option maxHeartbeats 1000000 in
theorem index_D (s : ByteArray) (w : World) : Calls Tryz.prog 160 #[.string s, .string ⟨#[36]⟩] w fun e w' => e = .returned (.int .i64 (Lib.indexByte s.data.toList 36)) ∧ w' = w := by
  cases hq : ([36] : List UInt8) == s.toList with
  | true =>
    have e : s.data.toList = [36] := by rw [← ByteArray.toList_eq]; exact (by simpa using hq : [36] = s.toList).symm
    have HE := Lib.hid e
    clear e
    go_enter Tryz.func160, Tryz.ntmps160
    go_wp2_with fail
    go_ret
    exact ⟨by rw [HE.out]; rfl, rfl⟩
  | false =>
    go_enter Tryz.func160, Tryz.ntmps160
    go_wp2_with fail
    change Calls Tryz.prog 164 #[Value.string s, Value.int IntKind.u8 36] w _
    refine (Tryz.stringslite_IndexByte s 36 _).mono ?_
    rintro e w' ⟨rfl, rfl⟩
    go_wp2_with fail
    go_ret
    exact ⟨rfl, rfl⟩
end Go.Proofs.YtciijpahjjoppaaGreat
end
