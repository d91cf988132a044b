/-
  Trees as plain data: a cell is a number, a text, a truth or a row of elements of cells; where they lie in memory; their shapes.
-/
import Derived.Test.YtciijpahjjoppaaGreatRows
import Derived.WalkKit
import Derived.WalkSpells
import Derived.WalkLawsBesides
import Derived.BigQuiet
import Derived.Deep.QuietTactic
import Derived.Deep.Draws
import Derived.Deep.Slices
import Derived.Lib.Hide
import Derived.OwnWalk
import Derived.Maps.AppendAt
import Derived.IntWalk
import Derived.Below
namespace Go.Proofs.YtciijpahjjoppaaGreat
open Go.RowKit Go.ChangeShapes Go.WideShapes Go.Deep

theorem heap_lt {w : World} {b : Nat} {o : Obj} (h : w.heap[b]? = some o) : b < w.heap.size := by
  rcases Nat.lt_or_ge b w.heap.size with g | g
  · exact g
  · rw [Array.getElem?_eq_none g] at h; cases h
theorem heap_new (w : World) (o : Obj) : (w.alloc o).heap[w.heap.size]? = some o := by
  show (w.heap.push o)[w.heap.size]? = _
  simp
theorem cell_eq {w w' : World} {b o : Nat} (h : w'.heap[b]? = w.heap[b]?) : w'.cell? ⟨b, o, none⟩ = w.cell? ⟨b, o, none⟩ := by
  unfold World.cell?
  simp only [h]

/-- A cell's datum. -/
inductive D where
  | int (n : Int)
  | str (s : ByteArray)
  | bool (b : Bool)
  | row (l : List (List D))

/-- A value that reads as a datum. -/
inductive At (w : World) : Value → D → Prop where
  | int (n : Int) : -9223372036854775808 ≤ n → n ≤ 9223372036854775807 → At w (.int .i64 n) (.int n)
  | str (s : ByteArray) : s.size ≤ maxLen → At w (.string s) (.str s)
  | bool (b : Bool) : At w (.bool b) (.bool b)
  | nil (a : Option Addr) (cap : Nat) : cap ≤ maxLen → At w (.slice a 0 cap) (.row [])
  | row (b o len cap k : Nat) (l : List (List D)) (cs : Nat → List Value) : l.length = len → len ≤ cap → cap ≤ maxLen → b < w.heap.size →
      (∀ j, j < len → (cs j).length = k) → (∀ (j : Nat) (ds : List D), l[j]? = some ds → ds.length = k) →
      (∀ (j i : Nat) (v : Value), j < len → (cs j)[i]? = some v → w.cell? ⟨b, o + j * k + i, none⟩ = some v) →
      (∀ (j i : Nat) (ds : List D) (v : Value) (d : D), l[j]? = some ds → (cs j)[i]? = some v → ds[i]? = some d → At w v d) →
      At w (.slice (some ⟨b, o, none⟩) len cap) (.row l)
def AllAt (w : World) : List Value → List D → Prop
  | [], [] => True
  | v :: vs, d :: ds => At w v d ∧ AllAt w vs ds
  | _, _ => False

theorem AllAt.len {w : World} : ∀ {vs : List Value} {ds : List D}, AllAt w vs ds → vs.length = ds.length
  | [], [], _ => rfl
  | v :: vs, d :: ds, h => by simp [AllAt.len h.2]
  | [], _ :: _, h => h.elim
  | _ :: _, [], h => h.elim
theorem allAt_of {w : World} : ∀ {vs : List Value} {ds : List D}, vs.length = ds.length → (∀ (i : Nat) (v : Value) (d : D), vs[i]? = some v → ds[i]? = some d → At w v d) → AllAt w vs ds
  | [], [], _, _ => trivial
  | v :: vs, d :: ds, hl, h => ⟨h 0 v d rfl rfl, allAt_of (by simpa using hl) fun i v' d' h1 h2 => h (i + 1) v' d' (by simpa using h1) (by simpa using h2)⟩
  | [], _ :: _, hl, _ => by simp at hl
  | _ :: _, [], hl, _ => by simp at hl
theorem AllAt.get {w : World} : ∀ {vs : List Value} {ds : List D}, AllAt w vs ds → ∀ (i : Nat) (v : Value) (d : D), vs[i]? = some v → ds[i]? = some d → At w v d
  | [], [], _, i, v, d, h1, _ => by simp at h1
  | v :: vs, d :: ds, h, 0, _, _, h1, h2 => by simp at h1 h2; subst h1 h2; exact h.1
  | v :: vs, d :: ds, h, i + 1, v', d', h1, h2 => AllAt.get h.2 i v' d' (by simpa using h1) (by simpa using h2)
  | [], _ :: _, h, _, _, _, _, _ => h.elim
  | _ :: _, [], h, _, _, _, _, _ => h.elim
theorem AllAt.append {w : World} : ∀ {vs ws : List Value} {ds es : List D}, AllAt w vs ds → AllAt w ws es → AllAt w (vs ++ ws) (ds ++ es)
  | [], _, [], _, _, h => h
  | _ :: _, _, _ :: _, _, h, h' => ⟨h.1, AllAt.append h.2 h'⟩
  | [], _, _ :: _, _, h, _ => h.elim
  | _ :: _, _, [], _, h, _ => h.elim

theorem At.stays {w w' : World} {v : Value} {d : D} (h : At w v d) (hb : Below w.heap.size w w') : At w' v d := by
  induction h with
  | int n h1 h2 => exact .int n h1 h2
  | str s h => exact .str s h
  | bool b => exact .bool b
  | nil a cap h => exact .nil a cap h
  | row b o len cap k l cs h1 h2 h3 h4 h5 h6 h7 _ ih =>
    exact .row b o len cap k l cs h1 h2 h3 (Nat.lt_of_lt_of_le h4 hb.size) h5 h6 (fun j i v hj hv => (hb.cell (p := ⟨b, o + j * k + i, none⟩) h4).trans (h7 j i v hj hv)) fun j i ds v d h1 h2 h3 => ih j i ds v d h1 h2 h3
theorem AllAt.stays {w w' : World} : ∀ {vs : List Value} {ds : List D}, AllAt w vs ds → Below w.heap.size w w' → AllAt w' vs ds
  | [], [], _, _ => trivial
  | _ :: _, _ :: _, h, hb => ⟨h.1.stays hb, AllAt.stays h.2 hb⟩
  | [], _ :: _, h, _ => h.elim
  | _ :: _, [], h, _ => h.elim

theorem At.int_inv {w : World} {v : Value} {n : Int} (h : At w v (.int n)) : v = .int .i64 n ∧ -9223372036854775808 ≤ n ∧ n ≤ 9223372036854775807 := by
  cases h with
  | int _ h1 h2 => exact ⟨rfl, h1, h2⟩
theorem At.str_inv {w : World} {v : Value} {s : ByteArray} (h : At w v (.str s)) : v = .string s ∧ s.size ≤ maxLen := by
  cases h with
  | str _ h1 => exact ⟨rfl, h1⟩
theorem At.bool_inv {w : World} {v : Value} {b : Bool} (h : At w v (.bool b)) : v = .bool b := by
  cases h with
  | bool _ => rfl
theorem At.row_inv {w : World} {v : Value} {l : List (List D)} (h : At w v (.row l)) : ∃ a cap, v = .slice a l.length cap ∧ l.length ≤ cap ∧ cap ≤ maxLen := by
  cases h with
  | nil a cap h => exact ⟨a, cap, rfl, Nat.zero_le _, h⟩
  | row b o len cap k _ cs h1 h2 h3 => subst h1; exact ⟨_, cap, rfl, h2, h3⟩
theorem At.len_eq {w : World} {a : Option Addr} {len cap : Nat} {l : List (List D)} (h : At w (.slice a len cap) (.row l)) : l.length = len ∧ len ≤ cap ∧ cap ≤ maxLen := by
  cases h with
  | nil a cap h => exact ⟨rfl, Nat.zero_le _, h⟩
  | row b o len cap k _ cs h1 h2 h3 => exact ⟨h1, h2, h3⟩
theorem At.len_le {w : World} {a : Option Addr} {len cap : Nat} {l : List (List D)} (h : At w (.slice a len cap) (.row l)) : len ≤ 9223372036854775807 := by
  have := h.len_eq
  unfold maxLen at this
  omega
/-- An element of a row. -/
theorem At.elem {w : World} {a : Option Addr} {len cap : Nat} {l : List (List D)} (h : At w (.slice a len cap) (.row l)) {j : Nat} (hj : j < len) :
    ∃ b o vs ds, a = some ⟨b, o, none⟩ ∧ b < w.heap.size ∧ l[j]? = some ds ∧ AllAt w vs ds ∧ ∀ (i : Nat) (v : Value), vs[i]? = some v → w.cell? ⟨b, o + j * ds.length + i, none⟩ = some v := by
  cases h with
  | nil a cap h => omega
  | row b o len cap k _ cs h1 h2 h3 h4 h5 h6 h7 h8 =>
    have hx : l[j]? = some (l[j]'(by omega)) := List.getElem?_eq_getElem (by omega)
    have hk := h6 j _ hx
    refine ⟨b, o, cs j, _, rfl, h4, hx, allAt_of ((h5 j hj).trans hk.symm) fun i v d hv hd => h8 j i _ v d hx hv hd, fun i v hv => ?_⟩
    rw [hk]
    exact h7 j i v hj hv

/-- The shapes. -/
inductive ShT : List D → Prop where
  | mk (s : ByteArray) : ShT [.str s]
inductive ShE : List D → Prop where
  | mk (op n : Int) (nm fd : ByteArray) (l : List (List D)) : (∀ x ∈ l, ShE x) → ShE [.int op, .int n, .str nm, .str fd, .row l]
inductive ShF : List D → Prop where
  | mk (m0 m1 : List (List D)) (nm : ByteArray) (kd : Int) : (∀ x ∈ m0, ShT x) → (∀ x ∈ m1, ShT x) → ShF [.row m0, .row m1, .str nm, .int kd]
inductive ShC : List D → Prop where
  | mk (m0 m1 : List (List D)) (nm : ByteArray) (fs en : List (List D)) : (∀ x ∈ m0, ShT x) → (∀ x ∈ m1, ShT x) → (∀ x ∈ fs, ShF x) → (∀ x ∈ en, ShT x) → ShC [.row m0, .row m1, .str nm, .row fs, .row en]
inductive ShV : List D → Prop where
  | mk (m0 m1 : List (List D)) (nm : ByteArray) (kd sz : Int) (tn : ByteArray) : (∀ x ∈ m0, ShT x) → (∀ x ∈ m1, ShT x) → ShV [.row m0, .row m1, .str nm, .int kd, .int sz, .str tn]
inductive ShP : List D → Prop where
  | mk (nm : ByteArray) (kd sz : Int) (tn : ByteArray) (md : Int) : ShP [.str nm, .int kd, .int sz, .str tn, .int md]
inductive ShS : List D → Prop where
  | mk (m0 m1 : List (List D)) (op : Int) (nm : ByteArray) (pop pn : Int) (pnm pfd : ByteArray) (pl e : List (List D)) (dn mo : Bool) (bd el en e2 : List (List D)) :
      (∀ x ∈ m0, ShT x) → (∀ x ∈ m1, ShT x) → (∀ x ∈ pl, ShE x) → (∀ x ∈ e, ShE x) → (∀ x ∈ bd, ShS x) → (∀ x ∈ el, ShS x) → (∀ x ∈ en, ShT x) → (∀ x ∈ e2, ShT x) →
      ShS [.row m0, .row m1, .int op, .str nm, .int pop, .int pn, .str pnm, .str pfd, .row pl, .row e, .bool dn, .bool mo, .row bd, .row el, .row en, .row e2]
inductive ShR : List D → Prop where
  | mk (m0 m1 : List (List D)) (nm : ByteArray) (rs : Int) (ps vs inn bd en : List (List D)) :
      (∀ x ∈ m0, ShT x) → (∀ x ∈ m1, ShT x) → (∀ x ∈ ps, ShP x) → (∀ x ∈ vs, ShV x) → (∀ x ∈ inn, ShR x) → (∀ x ∈ bd, ShS x) → (∀ x ∈ en, ShT x) →
      ShR [.row m0, .row m1, .str nm, .int rs, .row ps, .row vs, .row inn, .row bd, .row en]
inductive ShG : List D → Prop where
  | mk (nm : ByteArray) (be mi af rc vs rt bd en : List (List D)) :
      (∀ x ∈ be, ShT x) → (∀ x ∈ mi, ShT x) → (∀ x ∈ af, ShT x) → (∀ x ∈ rc, ShC x) → (∀ x ∈ vs, ShV x) → (∀ x ∈ rt, ShR x) → (∀ x ∈ bd, ShS x) → (∀ x ∈ en, ShT x) →
      ShG [.str nm, .row be, .row mi, .row af, .row rc, .row vs, .row rt, .row bd, .row en]

/-- Are both the same? -/
noncomputable def same {α : Type} (x y : α) : Bool := @decide (x = y) (Classical.propDecidable _)
theorem same_iff {α : Type} (x y : α) : same x y = true ↔ x = y := by unfold same; simp
theorem same_refl {α : Type} (x : α) : same x x = true := (same_iff _ _).2 rfl
theorem same_no {α : Type} {x y : α} (h : x ≠ y) : same x y = false := by
  cases hb : same x y with
  | false => rfl
  | true => exact absurd ((same_iff _ _).1 hb) h
theorem same_comm {α : Type} (x y : α) : same x y = same y x := by
  by_cases h : x = y
  · subst h; rfl
  · rw [same_no h, same_no (Ne.symm h)]
end Go.Proofs.YtciijpahjjoppaaGreat
