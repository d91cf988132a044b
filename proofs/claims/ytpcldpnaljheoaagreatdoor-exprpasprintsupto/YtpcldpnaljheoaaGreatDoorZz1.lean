/-
  Texts of this proof, put together.
-/
import Derived.Test.YtpcldpnaljheoaaGreatDoorRows
import Derived.WalkKit
import Derived.WalkSpells
import Derived.WalkLawsBesides
import Derived.BigQuiet
import Derived.Deep.QuietTactic
import Derived.Deep.Draws
import Derived.Deep.Slices
import Derived.Lib.Hide
import Derived.OwnWalk
import Derived.Maps.AppendAt
import Derived.IntWalk
import Derived.Below
import Derived.Lib.ItoaNum
import Derived.Shelf.Strings.Builder1
import Derived.Shelf.Strings.Builder2
import Derived.Shelf.Strings.OnBuilder
import Derived.Shelf.Small.Utf8
import Derived.Shelf.Small.Strs
import Derived.Shelf.Small.Wraps
import Derived.Shelf.Strings.BuilderF
import Derived.Shelf.Strings.BuilderK
import Derived.Shelf.Strings.BuilderRune
import Derived.Shelf.Utf8.AppendRune
import Derived.Shelf.Strconv.Itoa0
import Derived.Shelf.Strings.Search1
import Derived.Shelf.Strings.Search2
import Derived.Shelf.Strings.Cut
import Derived.Shelf.LaysM
import Derived.Shelf.Strings.Shaped
import Derived.Shelf.Strings.Prefix
import Derived.Shelf.Unicode.Latin
import Derived.Shelf.Unicode.DecodeSlow
import Derived.Shelf.Unicode.CaseLookup
import Derived.Shelf.Unicode.CaseConvert
import Derived.Shelf.Unicode.CaseTo
import Derived.Shelf.Unicode.CaseLaid
import Derived.Test.YtpcldpnaljheoaaGreatDoorProg
import Derived.Laws.IdiomCopy
import Derived.Laws.Cells
import Derived.Laws.Alloc2
import Derived.Shelf.SlicesQ.Load
import Derived.Lib.Bytealg
import Derived.RangeFuncNested
import Derived.RangeFuncBound
import Derived.RangeFuncCalls
import Derived.RangeFuncLeaves
import Derived.RangeFuncWrites
import Derived.RangeFuncBox
import Derived.Shelf.Abstract
import Derived.Shelf.RegionOpen
import Derived.OwnWalkIn
import Derived.TacticsInMore
import Derived.LoopNIn
import Derived.LoopIn
import Derived.Maps.OwnIn
import Derived.Maps.OwnSet
import Derived.Laws.AppendOwn
import Derived.Maps.Views
import Derived.Laws.Cover3
import Derived.ProofKit
import Derived.OpenShut
import Derived.Laws.MakeOwn
import Derived.Lib.QuietBelow
import Derived.Deep.RegionHeld3
import Derived.StillTailTactics
import Derived.Shelf.SlicesE.Kit
section
namespace Go.Proofs.YtpcldpnaljheoaaGreatDoor
open Go.RowKit Go.ChangeShapes Go.WideShapes Go.Deep

theorem heap_lt {w : World} {b : Nat} {o : Obj} (h : w.heap[b]? = some o) : b < w.heap.size := by
  rcases Nat.lt_or_ge b w.heap.size with g | g
  · exact g
  · rw [Array.getElem?_eq_none g] at h; cases h
theorem heap_new (w : World) (o : Obj) : (w.alloc o).heap[w.heap.size]? = some o := by
  show (w.heap.push o)[w.heap.size]? = _
  simp
theorem cell_eq {w w' : World} {b o : Nat} (h : w'.heap[b]? = w.heap[b]?) : w'.cell? ⟨b, o, none⟩ = w.cell? ⟨b, o, none⟩ := by
  unfold World.cell?
  simp only [h]

/-- A cell's datum. -/
inductive D where
  | int (n : Int)
  | str (s : ByteArray)
  | bool (b : Bool)
  | row (l : List (List D))

/-- A value that reads as a datum. -/
inductive At (w : World) : Value → D → Prop where
  | int (n : Int) : -9223372036854775808 ≤ n → n ≤ 9223372036854775807 → At w (.int .i64 n) (.int n)
  | str (s : ByteArray) : s.size ≤ maxLen → At w (.string s) (.str s)
  | bool (b : Bool) : At w (.bool b) (.bool b)
  | nil (a : Option Addr) (cap : Nat) : cap ≤ maxLen → At w (.slice a 0 cap) (.row [])
  | row (b o len cap k : Nat) (l : List (List D)) (cs : Nat → List Value) : l.length = len → len ≤ cap → cap ≤ maxLen → b < w.heap.size →
      (∀ j, j < len → (cs j).length = k) → (∀ (j : Nat) (ds : List D), l[j]? = some ds → ds.length = k) →
      (∀ (j i : Nat) (v : Value), j < len → (cs j)[i]? = some v → w.cell? ⟨b, o + j * k + i, none⟩ = some v) →
      (∀ (j i : Nat) (ds : List D) (v : Value) (d : D), l[j]? = some ds → (cs j)[i]? = some v → ds[i]? = some d → At w v d) →
      At w (.slice (some ⟨b, o, none⟩) len cap) (.row l)
def AllAt (w : World) : List Value → List D → Prop
  | [], [] => True
  | v :: vs, d :: ds => At w v d ∧ AllAt w vs ds
  | _, _ => False

theorem AllAt.len {w : World} : ∀ {vs : List Value} {ds : List D}, AllAt w vs ds → vs.length = ds.length
  | [], [], _ => rfl
  | v :: vs, d :: ds, h => by simp [AllAt.len h.2]
  | [], _ :: _, h => h.elim
  | _ :: _, [], h => h.elim
theorem allAt_of {w : World} : ∀ {vs : List Value} {ds : List D}, vs.length = ds.length → (∀ (i : Nat) (v : Value) (d : D), vs[i]? = some v → ds[i]? = some d → At w v d) → AllAt w vs ds
  | [], [], _, _ => trivial
  | v :: vs, d :: ds, hl, h => ⟨h 0 v d rfl rfl, allAt_of (by simpa using hl) fun i v' d' h1 h2 => h (i + 1) v' d' (by simpa using h1) (by simpa using h2)⟩
  | [], _ :: _, hl, _ => by simp at hl
  | _ :: _, [], hl, _ => by simp at hl
theorem At.int_inv {w : World} {v : Value} {n : Int} (h : At w v (.int n)) : v = .int .i64 n ∧ -9223372036854775808 ≤ n ∧ n ≤ 9223372036854775807 := by
  cases h with
  | int _ h1 h2 => exact ⟨rfl, h1, h2⟩
theorem At.str_inv {w : World} {v : Value} {s : ByteArray} (h : At w v (.str s)) : v = .string s ∧ s.size ≤ maxLen := by
  cases h with
  | str _ h1 => exact ⟨rfl, h1⟩
theorem At.row_inv {w : World} {v : Value} {l : List (List D)} (h : At w v (.row l)) : ∃ a cap, v = .slice a l.length cap ∧ l.length ≤ cap ∧ cap ≤ maxLen := by
  cases h with
  | nil a cap h => exact ⟨a, cap, rfl, Nat.zero_le _, h⟩
  | row b o len cap k _ cs h1 h2 h3 => subst h1; exact ⟨_, cap, rfl, h2, h3⟩
theorem At.len_eq {w : World} {a : Option Addr} {len cap : Nat} {l : List (List D)} (h : At w (.slice a len cap) (.row l)) : l.length = len ∧ len ≤ cap ∧ cap ≤ maxLen := by
  cases h with
  | nil a cap h => exact ⟨rfl, Nat.zero_le _, h⟩
  | row b o len cap k _ cs h1 h2 h3 => exact ⟨h1, h2, h3⟩
theorem At.len_le {w : World} {a : Option Addr} {len cap : Nat} {l : List (List D)} (h : At w (.slice a len cap) (.row l)) : len ≤ 9223372036854775807 := by
  have := h.len_eq
  unfold maxLen at this
  omega
/-- An element of a row. -/
theorem At.elem {w : World} {a : Option Addr} {len cap : Nat} {l : List (List D)} (h : At w (.slice a len cap) (.row l)) {j : Nat} (hj : j < len) :
    ∃ b o vs ds, a = some ⟨b, o, none⟩ ∧ b < w.heap.size ∧ l[j]? = some ds ∧ AllAt w vs ds ∧ ∀ (i : Nat) (v : Value), vs[i]? = some v → w.cell? ⟨b, o + j * ds.length + i, none⟩ = some v := by
  cases h with
  | nil a cap h => omega
  | row b o len cap k _ cs h1 h2 h3 h4 h5 h6 h7 h8 =>
    have hx : l[j]? = some (l[j]'(by omega)) := List.getElem?_eq_getElem (by omega)
    have hk := h6 j _ hx
    refine ⟨b, o, cs j, _, rfl, h4, hx, allAt_of ((h5 j hj).trans hk.symm) fun i v d hv hd => h8 j i _ v d hx hv hd, fun i v hv => ?_⟩
    rw [hk]
    exact h7 j i v hj hv

inductive ShE : List D → Prop where
  | mk (op n : Int) (nm fd : ByteArray) (l : List (List D)) : (∀ x ∈ l, ShE x) → ShE [.int op, .int n, .str nm, .str fd, .row l]
/-- Are both the same? -/
noncomputable def same {α : Type} (x y : α) : Bool := @decide (x = y) (Classical.propDecidable _)
theorem same_iff {α : Type} (x y : α) : same x y = true ↔ x = y := by unfold same; simp
theorem same_refl {α : Type} (x : α) : same x x = true := (same_iff _ _).2 rfl
theorem same_no {α : Type} {x y : α} (h : x ≠ y) : same x y = false := by
  cases hb : same x y with
  | false => rfl
  | true => exact absurd ((same_iff _ _).1 hb) h
end Go.Proofs.YtpcldpnaljheoaaGreatDoor
end
section
namespace Go.Proofs.YtpcldpnaljheoaaGreatDoor
open Go.RowKit Go.Deep

/-- What a comparison leaves. -/
def EqPost {α : Type} (x y : α) (W : World) (e : Ending) (W' : World) : Prop := e = .returned (.bool (same x y)) ∧ Below W.heap.size W W'
theorem take_same_succ {α : Type} {l l' : List α} {k : Nat} {x : α} (hx : l[k]? = some x) (hy : l'[k]? = some x) (h : l.take k = l'.take k) : l.take (k + 1) = l'.take (k + 1) := by
  rw [List.take_add_one, List.take_add_one, h, hx, hy]
theorem same_miss {α : Type} {l l' : List α} {k : Nat} {x y : α} (hx : l[k]? = some x) (hy : l'[k]? = some y) (h : same x y = false) : same l l' = false := by
  refine same_no fun e => ?_
  subst e
  rw [hx] at hy
  cases hy
  rw [same_refl] at h
  cases h
theorem same_len {α : Type} {l l' : List α} (h : l.length ≠ l'.length) : same l l' = false := same_no fun e => h (by rw [e])
theorem same_end {α : Type} {l l' : List α} (hl : l.length = l'.length) (h : l.take l.length = l'.take l.length) : same l l' = true := by
  rw [List.take_length, hl, List.take_length] at h
  exact (same_iff _ _).2 h
/-- A function that compares the elements of two rows. -/
def EqFn (w0 : World) (g : Nat) (l l' : List (List D)) : Prop := ∀ x ∈ l, ∀ y ∈ l', ∀ vs ws, AllAt w0 vs x → AllAt w0 ws y → ∀ W, Below w0.heap.size w0 W → Calls Tryz.prog g #[.agg ⟨vs⟩, .agg ⟨ws⟩] W (EqPost x y W)
theorem AllAt.openE {w : World} {vs : List Value} {ds : List D} (h : AllAt w vs ds) (hs : ShE ds) :
    ∃ op n nm fd kl kla klc, ds = [.int op, .int n, .str nm, .str fd, .row kl] ∧ vs = [.int .i64 op, .int .i64 n, .string nm, .string fd, .slice kla kl.length klc] ∧ (-9223372036854775808 ≤ op ∧ op ≤ 9223372036854775807) ∧ (-9223372036854775808 ≤ n ∧ n ≤ 9223372036854775807) ∧ nm.size ≤ maxLen ∧ fd.size ≤ maxLen ∧ At w (.slice kla kl.length klc) (.row kl) ∧ (∀ x ∈ kl, ShE x) := by
  cases hs with
  | mk op n nm fd kl skl =>
    match vs, h with
    | [v0, v1, v2, v3, v4], ⟨h0, h1, h2, h3, h4, _⟩ =>
      obtain ⟨rfl, i0⟩ := h0.int_inv
      obtain ⟨rfl, i1⟩ := h1.int_inv
      obtain ⟨rfl, i2⟩ := h2.str_inv
      obtain ⟨rfl, i3⟩ := h3.str_inv
      obtain ⟨kla, klc, rfl, _⟩ := h4.row_inv
      exact ⟨op, n, nm, fd, kl, kla, klc, rfl, rfl, i0, i1, i2, i3, h4, skl⟩
end Go.Proofs.YtpcldpnaljheoaaGreatDoor
end
section
namespace Go.Proofs.YtpcldpnaljheoaaGreatDoor
open Go.RowKit

/-- Is a text one of some? -/
def isIn (x : ByteArray) (l : List ByteArray) : Bool := l.any fun y => y.toList == x.toList
theorem beq_iff (x y : ByteArray) : (x.toList == y.toList) = true ↔ x = y := by
  rw [beq_iff_eq, ByteArray.toList_eq, ByteArray.toList_eq]
  exact ⟨fun h => ByteArray.ext (Array.ext' h), fun h => by rw [h]⟩
theorem beq_false (x y : ByteArray) : (x.toList == y.toList) = false ↔ x ≠ y := by
  rw [← Bool.not_eq_true, ne_eq, beq_iff]
theorem isIn_iff (x : ByteArray) (l : List ByteArray) : isIn x l = true ↔ x ∈ l := by
  unfold isIn
  rw [List.any_eq_true]
  exact ⟨fun ⟨y, hy, h⟩ => by rw [← (beq_iff y x).1 h]; exact hy, fun h => ⟨x, h, (beq_iff x x).2 rfl⟩⟩
def pasW : List ByteArray := [⟨#[97, 110, 100]⟩, ⟨#[97, 114, 114, 97, 121]⟩, ⟨#[98, 101, 103, 105, 110]⟩, ⟨#[98, 111, 111, 108, 101, 97, 110]⟩, ⟨#[99, 104, 97, 114]⟩, ⟨#[100, 105, 118]⟩, ⟨#[100, 111]⟩, ⟨#[100, 111, 119, 110, 116, 111]⟩, ⟨#[101, 108, 115, 101]⟩, ⟨#[101, 110, 100]⟩, ⟨#[102, 97, 108, 115, 101]⟩, ⟨#[102, 111, 114]⟩, ⟨#[102, 111, 114, 119, 97, 114, 100]⟩, ⟨#[102, 117, 110, 99, 116, 105, 111, 110]⟩, ⟨#[105, 102]⟩, ⟨#[105, 110, 116, 101, 103, 101, 114]⟩, ⟨#[109, 111, 100]⟩, ⟨#[110, 111, 116]⟩, ⟨#[111, 102]⟩, ⟨#[111, 114]⟩, ⟨#[112, 114, 111, 99, 101, 100, 117, 114, 101]⟩, ⟨#[112, 114, 111, 103, 114, 97, 109]⟩, ⟨#[114, 101, 97, 100]⟩, ⟨#[114, 101, 99, 111, 114, 100]⟩, ⟨#[114, 101, 112, 101, 97, 116]⟩, ⟨#[114, 101, 116, 117, 114, 110]⟩, ⟨#[116, 104, 101, 110]⟩, ⟨#[116, 111]⟩, ⟨#[116, 114, 117, 101]⟩, ⟨#[116, 121, 112, 101]⟩, ⟨#[117, 110, 116, 105, 108]⟩, ⟨#[118, 97, 114]⟩, ⟨#[119, 104, 105, 108, 101]⟩, ⟨#[119, 114, 105, 116, 101]⟩]
def ceeW : List ByteArray := [⟨#[98, 111, 111, 108]⟩, ⟨#[99, 104, 97, 114]⟩, ⟨#[100, 111]⟩, ⟨#[100, 111, 119, 110, 116, 111]⟩, ⟨#[101, 108, 115, 101]⟩, ⟨#[102, 97, 108, 115, 101]⟩, ⟨#[102, 111, 114]⟩, ⟨#[103, 101, 116]⟩, ⟨#[105, 102]⟩, ⟨#[105, 110, 116]⟩, ⟨#[109, 97, 105, 110]⟩, ⟨#[112, 114, 111, 103, 114, 97, 109]⟩, ⟨#[112, 117, 116]⟩, ⟨#[114, 101, 116, 117, 114, 110]⟩, ⟨#[115, 116, 114, 117, 99, 116]⟩, ⟨#[116, 111]⟩, ⟨#[116, 114, 117, 101]⟩, ⟨#[117, 110, 116, 105, 108]⟩, ⟨#[117, 112]⟩, ⟨#[118, 111, 105, 100]⟩, ⟨#[119, 104, 105, 108, 101]⟩]
/-- The words of a dialect. -/
def wordsOf (d : Int) : List ByteArray := if d = 0 then pasW else if d = 1 then ceeW else []
theorem wordsOf_no (d : Int) (h0 : d ≠ 0) (h1 : d ≠ 1) : wordsOf d = [] := by unfold wordsOf; rw [if_neg h0, if_neg h1]
theorem pas_len : pasW.length = 34 := rfl
theorem cee_len : ceeW.length = 21 := rfl
theorem pas_small : ∀ x ∈ pasW, x.size ≤ 9 := by decide
theorem cee_small : ∀ x ∈ ceeW, x.size ≤ 9 := by decide
theorem words_small (d : Int) : ∀ x ∈ wordsOf d, x.size ≤ 9 := by
  unfold wordsOf; split
  · exact pas_small
  · split
    · exact cee_small
    · simp
theorem take_snoc {names : List ByteArray} {k : Nat} {x : ByteArray} (h : names[k]? = some x) : names.take (k + 1) = names.take k ++ [x] := by
  rw [List.take_add_one, h]; rfl
end Go.Proofs.YtpcldpnaljheoaaGreatDoor
end
section
namespace Go.Proofs.YtpcldpnaljheoaaGreatDoor
open Go.RowKit

/-- A token. -/
structure Tok where
  kind : Nat
  text : ByteArray
  n : Nat
  same : Bool
  pos : Nat
  line : Nat
  col : Nat
/-- A reader's state: its place; the first fault, if there is one, and that fault's place. -/
structure RS where
  k : Nat
  f : Nat
  fp : Nat
  fl : Nat
  fc : Nat
def endT (ts : List Tok) : Tok := match ts.getLast? with
  | some t => ⟨0, ⟨#[]⟩, 0, false, t.pos, t.line, t.col⟩
  | none => ⟨0, ⟨#[]⟩, 0, false, 0, 0, 0⟩
def cur (ts : List Tok) (s : RS) : Tok := if s.f = 0 then (ts[s.k]?).getD (endT ts) else endT ts
def failS (s : RS) (c p l k : Nat) : RS := if s.f = 0 then ⟨s.k, c, p, l, k⟩ else s
def codeT (t : Tok) : Nat := if t.kind = 6 then 9 else 10
def refuseS (ts : List Tok) (s : RS) : RS := failS s (codeT (cur ts s)) (cur ts s).pos (cur ts s).line (cur ts s).col
def stepS (s : RS) : RS := ⟨s.k + 1, s.f, s.fp, s.fl, s.fc⟩
/-- A word or a sign that is one of some texts. -/
def isW (t : Tok) (l : List ByteArray) : Bool := (t.kind == 2 || t.kind == 5) && isIn t.text l
def isT (ts : List Tok) (s : RS) (l : List ByteArray) : Bool := isW (cur ts s) l
def takeT (ts : List Tok) (s : RS) (l : List ByteArray) : ByteArray × RS := if isT ts s l = true then ((cur ts s).text, stepS s) else (⟨#[]⟩, s)
def needT (ts : List Tok) (s : RS) (l : List ByteArray) : RS := if isT ts s l = true then stepS s else refuseS ts s
def needN (ts : List Tok) (s : RS) : ByteArray × RS := if (cur ts s).kind = 1 then ((cur ts s).text, stepS s) else (⟨#[]⟩, refuseS ts s)
/-- How many tokens are left. -/
def leftS (ts : List Tok) (s : RS) : Nat := if s.f = 0 then ts.length - s.k else 0

def noB : ByteArray := ⟨#[]⟩
def mkE (op n : Int) (nm fd : ByteArray) (l : List (List D)) : List D := [.int op, .int n, .str nm, .str fd, .row l]
def e0 : List D := mkE 0 0 noB noB []
def falseB : ByteArray := ⟨#[102, 97, 108, 115, 101]⟩
def trueB : ByteArray := ⟨#[116, 114, 117, 101]⟩
abbrev XS := List D × RS
def constP (ts : List Tok) (s : RS) : XS :=
  if (cur ts s).kind = 3 then (mkE 1 ((cur ts s).n : Int) noB noB [], stepS s)
  else if (cur ts s).kind = 4 then (mkE 3 ((cur ts s).n : Int) noB noB [], stepS s)
  else if isT ts s [falseB] = true then (mkE 2 0 noB noB [], stepS s)
  else if isT ts s [trueB] = true then (mkE 2 1 noB noB [], stepS s)
  else (e0, refuseS ts s)

/-- The signs of two operands, from operation 10 on. -/
def signsP : List ByteArray := [⟨#[42]⟩, ⟨#[100, 105, 118]⟩, ⟨#[109, 111, 100]⟩, ⟨#[97, 110, 100]⟩, ⟨#[97, 110, 100, 32, 116, 104, 101, 110]⟩, ⟨#[43]⟩, ⟨#[45]⟩, ⟨#[111, 114]⟩, ⟨#[111, 114, 32, 101, 108, 115, 101]⟩, ⟨#[61]⟩, ⟨#[60, 62]⟩, ⟨#[60]⟩, ⟨#[60, 61]⟩, ⟨#[62]⟩, ⟨#[62, 61]⟩]
def opFrom : List ByteArray → Nat → ByteArray → Nat
  | [], _, _ => 0
  | x :: r, k, t => if x = t then k else opFrom r (k + 1) t
def opNo (signs : List ByteArray) (t : ByteArray) : Nat := opFrom signs 10 t
def orB : ByteArray := ⟨#[111, 114]⟩
def elseB : ByteArray := ⟨#[101, 108, 115, 101]⟩
def andB : ByteArray := ⟨#[97, 110, 100]⟩
def thenB : ByteArray := ⟨#[116, 104, 101, 110]⟩
def opP (ts : List Tok) (s : RS) (l : List ByteArray) : Nat × RS :=
  if (takeT ts s l).1 = orB ∧ isT ts (takeT ts s l).2 [elseB] = true then (18, stepS (takeT ts s l).2)
  else if (takeT ts s l).1 = andB ∧ isT ts (takeT ts s l).2 [thenB] = true then (14, stepS (takeT ts s l).2)
  else (opNo signsP (takeT ts s l).1, (takeT ts s l).2)
/-- On behind e with signs and operands, as many as follow. -/
def rowP (ts : List Tok) (l : List ByteArray) (g : RS → XS) : Nat → List D → RS → XS
  | 0, e, s => (e, s)
  | m + 1, e, s => if (opP ts s l).1 = 0 then (e, (opP ts s l).2) else
      rowP ts l g m (mkE (opP ts s l).1 0 noB noB [e, (g (opP ts s l).2).1]) (g (opP ts s l).2).2
def mulL : List ByteArray := [⟨#[42]⟩, ⟨#[100, 105, 118]⟩, ⟨#[109, 111, 100]⟩, ⟨#[97, 110, 100]⟩]
def addL : List ByteArray := [⟨#[43]⟩, ⟨#[45]⟩, ⟨#[111, 114]⟩]
def cmpL : List ByteArray := [⟨#[61]⟩, ⟨#[60, 62]⟩, ⟨#[60]⟩, ⟨#[60, 61]⟩, ⟨#[62]⟩, ⟨#[62, 61]⟩]
section
variable (ts : List Tok) (g : RS → XS)
def termP (s : RS) : XS := rowP ts mulL g (ts.length + 1) (g s).1 (g s).2
def firstP (s : RS) : XS := if isT ts s [⟨#[45]⟩] = true then (mkE 8 0 noB noB [(termP ts g (stepS s)).1], (termP ts g (stepS s)).2) else termP ts g s
def simpleP (s : RS) : XS := rowP ts addL (termP ts g) (ts.length + 1) (firstP ts g s).1 (firstP ts g s).2
def exprP (s : RS) : XS :=
  if (opP ts (simpleP ts g s).2 cmpL).1 = 0 then ((simpleP ts g s).1, (opP ts (simpleP ts g s).2 cmpL).2)
  else (mkE (opP ts (simpleP ts g s).2 cmpL).1 0 noB noB [(simpleP ts g s).1, (simpleP ts g (opP ts (simpleP ts g s).2 cmpL).2).1], (simpleP ts g (opP ts (simpleP ts g s).2 cmpL).2).2)
/-- Operands behind the first ones, up to the bracket. -/
def opsP : Nat → List (List D) → RS → List (List D) × RS
  | 0, acc, s => (acc, s)
  | m + 1, acc, s => if isT ts s [⟨#[44]⟩] = true then opsP m (acc ++ [(exprP ts g (stepS s)).1]) (exprP ts g (stepS s)).2 else (acc, needT ts s [⟨#[41]⟩])
def operandsP (s : RS) : List (List D) × RS := if isT ts s [⟨#[41]⟩] = true then ([], stepS s) else opsP ts g (ts.length + 1) [(exprP ts g s).1] (exprP ts g s).2
def brL : List ByteArray := [⟨#[40]⟩, ⟨#[91]⟩, ⟨#[46]⟩]
def namedP (s : RS) : XS :=
  if (takeT ts (needN ts s).2 brL).1 = ⟨#[40]⟩ then (mkE 7 0 (needN ts s).1 noB (operandsP ts g (takeT ts (needN ts s).2 brL).2).1, (operandsP ts g (takeT ts (needN ts s).2 brL).2).2)
  else if (takeT ts (needN ts s).2 brL).1 = ⟨#[91]⟩ then (mkE 5 0 (needN ts s).1 noB [(exprP ts g (takeT ts (needN ts s).2 brL).2).1], needT ts (exprP ts g (takeT ts (needN ts s).2 brL).2).2 [⟨#[93]⟩])
  else if (takeT ts (needN ts s).2 brL).1 = ⟨#[46]⟩ then (mkE 6 0 (needN ts s).1 (needN ts (takeT ts (needN ts s).2 brL).2).1 [], (needN ts (takeT ts (needN ts s).2 brL).2).2)
  else (mkE 4 0 (needN ts s).1 noB [], (needN ts s).2)
def notB : ByteArray := ⟨#[110, 111, 116]⟩
def factorP (s : RS) : XS :=
  if isT ts s [notB] = true then (mkE 9 0 noB noB [(g (stepS s)).1], (g (stepS s)).2)
  else if isT ts s [⟨#[40]⟩] = true then ((exprP ts g (stepS s)).1, needT ts (exprP ts g (stepS s)).2 [⟨#[41]⟩])
  else if (cur ts s).kind = 1 then namedP ts g s
  else constP ts s
end
/-- What binds most, with so many tokens left at most. -/
def fac (ts : List Tok) : Nat → RS → XS
  | 0 => fun s => (e0, s)
  | n + 1 => factorP ts (fac ts n)
end Go.Proofs.YtpcldpnaljheoaaGreatDoor
end
section
namespace Go.Proofs
open Go.Shelf
def Tryz.lays170_ren : Go.Shelf.Ren := ⟨fun | 170 => 184 | n => n, fun | 70 => 167 | 3 => 3 | 0 => 0 | 72 => 169 | 37 => 142 | 5 => 5 | n => n, fun | n => n⟩
theorem Tryz.lays170 : Go.Proofs.Lays.n170 Tryz.prog Tryz.lays170_ren := {
  mixed := by kernel_rfl
  f170 := Tryz.func184.trans (congrArg some (by kernel_rfl))
  t0 := Tryz.underlying0
  a0 := Tryz.isAgg0
  z0 := Tryz.sizeOf0
  v0 := Tryz.zeroValue0
  t3 := Tryz.underlying3
  a3 := Tryz.isAgg3
  z3 := Tryz.sizeOf3
  v3 := Tryz.zeroValue3
  t37 := Tryz.underlying142
  a37 := Tryz.isAgg142
  z37 := Tryz.sizeOf142
  v37 := Tryz.zeroValue142
  t70 := Tryz.underlying167
  a70 := Tryz.isAgg167
  z70 := Tryz.sizeOf167
  v70 := Tryz.zeroValue167
  t72 := Tryz.underlying169
  a72 := Tryz.isAgg169
  z72 := Tryz.sizeOf169
  v72 := Tryz.zeroValue169 }
open Go.RowKit in
theorem Tryz.Builder_Len (B b : Nat) (bs : List Value) (w : World) (h : Lib.IsBuilder 169 5 B b bs w) :
    Calls Tryz.prog 184 #[.pointer (some ⟨b, 0, none⟩)] w fun e w' => e = .returned (.int .i64 bs.length) ∧ w' = w := Any.Builder_Len Tryz.lays170 B b bs w h
def Tryz.lays169_ren : Go.Shelf.Ren := ⟨fun | 169 => 119 | n => n, fun | 70 => 167 | 9 => 9 | 0 => 0 | 72 => 169 | 37 => 142 | 127 => 204 | 3 => 3 | 5 => 5 | n => n, fun | n => n⟩
theorem Tryz.lays169 : Go.Proofs.Lays.n169 Tryz.prog Tryz.lays169_ren := {
  mixed := by kernel_rfl
  f169 := Tryz.func119.trans (congrArg some (by kernel_rfl))
  t0 := Tryz.underlying0
  a0 := Tryz.isAgg0
  z0 := Tryz.sizeOf0
  v0 := Tryz.zeroValue0
  t3 := Tryz.underlying3
  a3 := Tryz.isAgg3
  z3 := Tryz.sizeOf3
  v3 := Tryz.zeroValue3
  t9 := Tryz.underlying9
  a9 := Tryz.isAgg9
  z9 := Tryz.sizeOf9
  v9 := Tryz.zeroValue9
  t37 := Tryz.underlying142
  a37 := Tryz.isAgg142
  z37 := Tryz.sizeOf142
  v37 := Tryz.zeroValue142
  t70 := Tryz.underlying167
  a70 := Tryz.isAgg167
  z70 := Tryz.sizeOf167
  v70 := Tryz.zeroValue167
  t72 := Tryz.underlying169
  a72 := Tryz.isAgg169
  z72 := Tryz.sizeOf169
  v72 := Tryz.zeroValue169
  t127 := Tryz.underlying204
  a127 := Tryz.isAgg204
  z127 := Tryz.sizeOf204
  v127 := Tryz.zeroValue204 }
theorem Tryz.Builder_Extra_169 : Builder.Extra Tryz.prog Tryz.lays169_ren := {
  sizeBuilder := by kernel_rfl
  liesBuilder := by kernel_rfl
  t5 := Tryz.underlying5
  a5 := Tryz.isAgg5
  z5 := Tryz.sizeOf5
  v5 := Tryz.zeroValue5
  infoByte := by kernel_rfl
  cellsByte := by kernel_rfl
  sizeByte := by kernel_rfl
  neB5 := by decide }
open Go.RowKit in
theorem Tryz.Builder_String (B b : Nat) (l : List UInt8) (w : World) (h : Lib.IsBuilder 169 5 B b (Lib.byteCells l) w) (h0 : l ≠ []) :
    Calls Tryz.prog 119 #[.pointer (some ⟨b, 0, none⟩)] w fun e w' => e = .returned (.string ⟨l.toArray⟩) ∧ Below B w w' := Any.Builder_String Tryz.lays169 Tryz.Builder_Extra_169 B b l w h h0
open Go.RowKit in
theorem Tryz.Builder_String_any (B b : Nat) (l : List UInt8) (w : World) (h : Lib.IsBuilder 169 5 B b (Lib.byteCells l) w) (hBw : B ≤ w.heap.size) :
    Calls Tryz.prog 119 #[.pointer (some ⟨b, 0, none⟩)] w fun e w' => e = .returned (.string ⟨l.toArray⟩) ∧ Below B w w' := Any.Builder_String_any Tryz.lays169 Tryz.Builder_Extra_169 B b l w h hBw
def Tryz.lays159_ren : Go.Shelf.Ren := ⟨fun | 159 => 76 | 165 => 116 | 166 => 117 | 167 => 118 | 169 => 119 | 230 => 120 | 204 => 121 | 240 => 158 | 241 => 159 | 197 => 160 | 118 => 161 | 168 => 162 | 270 => 163 | 262 => 164 | 276 => 187 | 277 => 188 | 260 => 189 | 242 => 190 | 313 => 191 | 278 => 204 | 274 => 205 | 275 => 206 | n => n, fun | 9 => 9 | 4 => 4 | 3 => 3 | 5 => 5 | 72 => 169 | 0 => 0 | 76 => 173 | 75 => 172 | 107 => 177 | 70 => 167 | 20 => 20 | 37 => 142 | 127 => 204 | 21 => 21 | 105 => 205 | 164 => 225 | 162 => 231 | 203 => 229 | 119 => 244 | 46 => 242 | 139 => 247 | 138 => 246 | 51 => 239 | 160 => 248 | 208 => 260 | 206 => 258 | 80 => 101 | n => n, fun | 13 => 2 | 3 => 5 | 4 => 6 | n => n⟩
theorem Tryz.lays159 : Go.Proofs.Lays.n159 Tryz.prog Tryz.lays159_ren := {
  mixed := by kernel_rfl
  f118 := Tryz.func161.trans (congrArg some (by kernel_rfl))
  f159 := Tryz.func76.trans (congrArg some (by kernel_rfl))
  f165 := Tryz.func116.trans (congrArg some (by kernel_rfl))
  f166 := Tryz.func117.trans (congrArg some (by kernel_rfl))
  f167 := Tryz.func118.trans (congrArg some (by kernel_rfl))
  f168 := Tryz.func162.trans (congrArg some (by kernel_rfl))
  f169 := Tryz.func119.trans (congrArg some (by kernel_rfl))
  f197 := Tryz.func160.trans (congrArg some (by kernel_rfl))
  f204 := Tryz.func121.trans (congrArg some (by kernel_rfl))
  f230 := Tryz.func120.trans (congrArg some (by kernel_rfl))
  f240 := Tryz.func158.trans (congrArg some (by kernel_rfl))
  f241 := Tryz.func159.trans (congrArg some (by kernel_rfl))
  f242 := Tryz.func190.trans (congrArg some (by kernel_rfl))
  f260 := Tryz.func189.trans (congrArg some (by kernel_rfl))
  f262 := Tryz.func164.trans (congrArg some (by kernel_rfl))
  f270 := Tryz.func163.trans (congrArg some (by kernel_rfl))
  f274 := Tryz.func205.trans (congrArg some (by kernel_rfl))
  f275 := Tryz.func206.trans (congrArg some (by kernel_rfl))
  f276 := Tryz.func187.trans (congrArg some (by kernel_rfl))
  f277 := Tryz.func188.trans (congrArg some (by kernel_rfl))
  f278 := Tryz.func204.trans (congrArg some (by kernel_rfl))
  f313 := Tryz.func191.trans (congrArg some (by kernel_rfl))
  t0 := Tryz.underlying0
  a0 := Tryz.isAgg0
  z0 := Tryz.sizeOf0
  v0 := Tryz.zeroValue0
  t3 := Tryz.underlying3
  a3 := Tryz.isAgg3
  z3 := Tryz.sizeOf3
  v3 := Tryz.zeroValue3
  t4 := Tryz.underlying4
  a4 := Tryz.isAgg4
  z4 := Tryz.sizeOf4
  v4 := Tryz.zeroValue4
  t5 := Tryz.underlying5
  a5 := Tryz.isAgg5
  z5 := Tryz.sizeOf5
  v5 := Tryz.zeroValue5
  t9 := Tryz.underlying9
  a9 := Tryz.isAgg9
  z9 := Tryz.sizeOf9
  v9 := Tryz.zeroValue9
  t20 := Tryz.underlying20
  a20 := Tryz.isAgg20
  z20 := Tryz.sizeOf20
  v20 := Tryz.zeroValue20
  t21 := Tryz.underlying21
  a21 := Tryz.isAgg21
  z21 := Tryz.sizeOf21
  v21 := Tryz.zeroValue21
  t37 := Tryz.underlying142
  a37 := Tryz.isAgg142
  z37 := Tryz.sizeOf142
  v37 := Tryz.zeroValue142
  t46 := Tryz.underlying242
  a46 := Tryz.isAgg242
  z46 := Tryz.sizeOf242
  v46 := Tryz.zeroValue242
  t51 := Tryz.underlying239
  a51 := Tryz.isAgg239
  z51 := Tryz.sizeOf239
  v51 := Tryz.zeroValue239
  t70 := Tryz.underlying167
  a70 := Tryz.isAgg167
  z70 := Tryz.sizeOf167
  v70 := Tryz.zeroValue167
  t72 := Tryz.underlying169
  a72 := Tryz.isAgg169
  z72 := Tryz.sizeOf169
  v72 := Tryz.zeroValue169
  t75 := Tryz.underlying172
  a75 := Tryz.isAgg172
  z75 := Tryz.sizeOf172
  v75 := Tryz.zeroValue172
  t76 := Tryz.underlying173
  a76 := Tryz.isAgg173
  z76 := Tryz.sizeOf173
  v76 := Tryz.zeroValue173
  t105 := Tryz.underlying205
  a105 := Tryz.isAgg205
  z105 := Tryz.sizeOf205
  v105 := Tryz.zeroValue205
  t107 := Tryz.underlying177
  a107 := Tryz.isAgg177
  z107 := Tryz.sizeOf177
  v107 := Tryz.zeroValue177
  t119 := Tryz.underlying244
  a119 := Tryz.isAgg244
  z119 := Tryz.sizeOf244
  t127 := Tryz.underlying204
  a127 := Tryz.isAgg204
  z127 := Tryz.sizeOf204
  v127 := Tryz.zeroValue204
  t138 := Tryz.underlying246
  a138 := Tryz.isAgg246
  z138 := Tryz.sizeOf246
  v138 := Tryz.zeroValue246
  t139 := Tryz.underlying247
  a139 := Tryz.isAgg247
  z139 := Tryz.sizeOf247
  v139 := Tryz.zeroValue247
  t160 := Tryz.underlying248
  a160 := Tryz.isAgg248
  z160 := Tryz.sizeOf248
  v160 := Tryz.zeroValue248
  t162 := Tryz.underlying231
  a162 := Tryz.isAgg231
  z162 := Tryz.sizeOf231
  v162 := Tryz.zeroValue231
  t164 := Tryz.underlying225
  a164 := Tryz.isAgg225
  z164 := Tryz.sizeOf225
  v164 := Tryz.zeroValue225
  t203 := Tryz.underlying229
  a203 := Tryz.isAgg229
  z203 := Tryz.sizeOf229
  v203 := Tryz.zeroValue229
  t206 := Tryz.underlying258
  a206 := Tryz.isAgg258
  z206 := Tryz.sizeOf258
  v206 := Tryz.zeroValue258
  t208 := Tryz.underlying260
  a208 := Tryz.isAgg260
  z208 := Tryz.sizeOf260
  v208 := Tryz.zeroValue260
  g3 := by kernel_rfl
  g4 := by kernel_rfl
  g13 := by kernel_rfl }
theorem Tryz.Builder_Extra_159 : Builder.Extra Tryz.prog Tryz.lays159_ren := {
  sizeBuilder := by kernel_rfl
  liesBuilder := by kernel_rfl
  t5 := Tryz.underlying5
  a5 := Tryz.isAgg5
  z5 := Tryz.sizeOf5
  v5 := Tryz.zeroValue5
  infoByte := by kernel_rfl
  cellsByte := by kernel_rfl
  sizeByte := by kernel_rfl
  neB5 := by decide }
open Go.RowKit in
theorem Tryz.strings_ToLower_ascii (s : ByteArray) (w : World) (hs : s.size ≤ 140737488355328) (hascii : ∀ (j : Nat) (b : UInt8), s.data.toList[j]? = some b → b.toNat < 128) :
    Calls Tryz.prog 76 #[.string s] w fun e w' => e = .returned (.string ⟨(Lib.toLowerA s.data.toList).toArray⟩) ∧ Below w.heap.size w w' := Any.strings_ToLower_ascii Tryz.lays159 Tryz.Builder_Extra_159 s w hs hascii
def Tryz.lays156_ren : Go.Shelf.Ren := ⟨fun | 156 => 114 | 165 => 116 | 166 => 117 | 169 => 119 | 240 => 158 | 241 => 159 | 276 => 187 | 277 => 188 | n => n, fun | 31 => 109 | 9 => 9 | 3 => 3 | 4 => 4 | 0 => 0 | 20 => 20 | 72 => 169 | 76 => 173 | 70 => 167 | 37 => 142 | 75 => 172 | 127 => 204 | 164 => 225 | 5 => 5 | 80 => 101 | n => n, fun | n => n⟩
theorem Tryz.lays156 : Go.Proofs.Lays.n156 Tryz.prog Tryz.lays156_ren := {
  mixed := by kernel_rfl
  f156 := Tryz.func114.trans (congrArg some (by kernel_rfl))
  f165 := Tryz.func116.trans (congrArg some (by kernel_rfl))
  f166 := Tryz.func117.trans (congrArg some (by kernel_rfl))
  f169 := Tryz.func119.trans (congrArg some (by kernel_rfl))
  f240 := Tryz.func158.trans (congrArg some (by kernel_rfl))
  f241 := Tryz.func159.trans (congrArg some (by kernel_rfl))
  f276 := Tryz.func187.trans (congrArg some (by kernel_rfl))
  f277 := Tryz.func188.trans (congrArg some (by kernel_rfl))
  t0 := Tryz.underlying0
  a0 := Tryz.isAgg0
  z0 := Tryz.sizeOf0
  v0 := Tryz.zeroValue0
  t3 := Tryz.underlying3
  a3 := Tryz.isAgg3
  z3 := Tryz.sizeOf3
  v3 := Tryz.zeroValue3
  t4 := Tryz.underlying4
  a4 := Tryz.isAgg4
  z4 := Tryz.sizeOf4
  v4 := Tryz.zeroValue4
  t9 := Tryz.underlying9
  a9 := Tryz.isAgg9
  z9 := Tryz.sizeOf9
  v9 := Tryz.zeroValue9
  t20 := Tryz.underlying20
  a20 := Tryz.isAgg20
  z20 := Tryz.sizeOf20
  v20 := Tryz.zeroValue20
  t31 := Tryz.underlying109
  a31 := Tryz.isAgg109
  z31 := Tryz.sizeOf109
  v31 := Tryz.zeroValue109
  t37 := Tryz.underlying142
  a37 := Tryz.isAgg142
  z37 := Tryz.sizeOf142
  v37 := Tryz.zeroValue142
  t70 := Tryz.underlying167
  a70 := Tryz.isAgg167
  z70 := Tryz.sizeOf167
  v70 := Tryz.zeroValue167
  t72 := Tryz.underlying169
  a72 := Tryz.isAgg169
  z72 := Tryz.sizeOf169
  v72 := Tryz.zeroValue169
  t75 := Tryz.underlying172
  a75 := Tryz.isAgg172
  z75 := Tryz.sizeOf172
  v75 := Tryz.zeroValue172
  t76 := Tryz.underlying173
  a76 := Tryz.isAgg173
  z76 := Tryz.sizeOf173
  v76 := Tryz.zeroValue173
  t127 := Tryz.underlying204
  a127 := Tryz.isAgg204
  z127 := Tryz.sizeOf204
  v127 := Tryz.zeroValue204
  t164 := Tryz.underlying225
  a164 := Tryz.isAgg225
  z164 := Tryz.sizeOf225
  v164 := Tryz.zeroValue225 }
theorem Tryz.Builder_Extra_156 : Builder.Extra Tryz.prog Tryz.lays156_ren := {
  sizeBuilder := by kernel_rfl
  liesBuilder := by kernel_rfl
  t5 := Tryz.underlying5
  a5 := Tryz.isAgg5
  z5 := Tryz.sizeOf5
  v5 := Tryz.zeroValue5
  infoByte := by kernel_rfl
  cellsByte := by kernel_rfl
  sizeByte := by kernel_rfl
  neB5 := by decide }
open Go.RowKit in
theorem Tryz.strings_Join (bk o c : Nat) (xs : List ByteArray) (sep : ByteArray) (w : World) (hcells : ∀ (j : Nat) x, xs[j]? = some x → w.cell? ⟨bk, o + j, none⟩ = some (.string x)) (hbk : bk < w.heap.size) (hN : xs.length ≤ 140737488355328) (hcap : xs.length ≤ c) (hlen : (Lib.join (xs.map (·.data.toList)) sep.data.toList).length ≤ 140737488355328) :
    Calls Tryz.prog 114 #[.slice (some ⟨bk, o, none⟩) xs.length c, .string sep] w fun e w' => e = .returned (.string ⟨(Lib.join (xs.map (·.data.toList)) sep.data.toList).toArray⟩) ∧ Below w.heap.size w w' := Any.strings_Join Tryz.lays156 Tryz.Builder_Extra_156 bk o c xs sep w hcells hbk hN hcap hlen
def Tryz.lays137_ren : Go.Shelf.Ren := ⟨fun | 137 => 113 | 217 => 155 | 266 => 185 | n => n, fun | 9 => 9 | 5 => 5 | 3 => 3 | n => n, fun | n => n⟩
theorem Tryz.lays137 : Go.Proofs.Lays.n137 Tryz.prog Tryz.lays137_ren := {
  mixed := by kernel_rfl
  f137 := Tryz.func113.trans (congrArg some (by kernel_rfl))
  f217 := Tryz.func155.trans (congrArg some (by kernel_rfl))
  f266 := Tryz.func185.trans (congrArg some (by kernel_rfl))
  t3 := Tryz.underlying3
  a3 := Tryz.isAgg3
  z3 := Tryz.sizeOf3
  v3 := Tryz.zeroValue3
  t5 := Tryz.underlying5
  a5 := Tryz.isAgg5
  z5 := Tryz.sizeOf5
  v5 := Tryz.zeroValue5
  t9 := Tryz.underlying9
  a9 := Tryz.isAgg9
  z9 := Tryz.sizeOf9
  v9 := Tryz.zeroValue9 }
open Go.RowKit in
theorem Tryz.strings_IndexByte (s : ByteArray) (c : Int) (w : World) :
    Calls Tryz.prog 113 #[.string s, .int .u8 c] w fun e w' => e = .returned (.int .i64 (Lib.indexByte s.data.toList c.toNat.toUInt8)) ∧ w' = w := Any.strings_IndexByte Tryz.lays137 s c w
def Tryz.lays103_ren : Go.Shelf.Ren := ⟨fun | 103 => 182 | 210 => 203 | 206 => 181 | n => n, fun | 9 => 9 | 4 => 4 | 24 => 42 | 3 => 3 | n => n, fun | n => n⟩
theorem Tryz.lays103 : Go.Proofs.Lays.n103 Tryz.prog Tryz.lays103_ren := {
  mixed := by kernel_rfl
  f103 := Tryz.func182.trans (congrArg some (by kernel_rfl))
  f206 := Tryz.func181.trans (congrArg some (by kernel_rfl))
  f210 := Tryz.func203.trans (congrArg some (by kernel_rfl))
  t3 := Tryz.underlying3
  a3 := Tryz.isAgg3
  z3 := Tryz.sizeOf3
  v3 := Tryz.zeroValue3
  t4 := Tryz.underlying4
  a4 := Tryz.isAgg4
  z4 := Tryz.sizeOf4
  v4 := Tryz.zeroValue4
  t9 := Tryz.underlying9
  a9 := Tryz.isAgg9
  z9 := Tryz.sizeOf9
  v9 := Tryz.zeroValue9
  t24 := Tryz.underlying42
  a24 := Tryz.isAgg42
  z24 := Tryz.sizeOf42
  v24 := Tryz.zeroValue42 }
open Go.RowKit in
theorem Tryz.strings_CutPrefix (s p : ByteArray) (w : World) :
    Calls Tryz.prog 182 #[.string s, .string p] w fun e w' => e = .returned (.tuple #[.string ⟨(Lib.trimPrefix s.data.toList p.data.toList).toArray⟩, .bool (Lib.hasPrefix s.data.toList p.data.toList)]) ∧ w' = w := Any.strings_CutPrefix Tryz.lays103 s p w
open Go.RowKit in
theorem Tryz.Builder_Len_f (B b : Nat) (bs : List Value) (w : World) (h : Lib.IsBuilderF 169 5 B b bs w) :
    Calls Tryz.prog 184 #[.pointer (some ⟨b, 0, none⟩)] w fun e w' => e = .returned (.int .i64 bs.length) ∧ w' = w := Any.Builder_Len_f Tryz.lays170 B b bs w h
open Go.RowKit in
theorem Tryz.Builder_String_any_k (B b : Nat) (l : List UInt8) (w : World) (h : Lib.IsBuilderF 169 5 B b (Lib.byteCells l) w) (hBw : B ≤ w.heap.size) :
    Calls Tryz.prog 119 #[.pointer (some ⟨b, 0, none⟩)] w fun e w' => e = .returned (.string ⟨l.toArray⟩) ∧ (Lib.IsBuilderF 169 5 B b (Lib.byteCells l) w' ∧ Below B w w' ∧ Lib.OthersKept 5 (some b) w w') := Any.Builder_String_any_k Tryz.lays169 Tryz.Builder_Extra_169 B b l w h hBw
def Tryz.lays217_ren : Go.Shelf.Ren := ⟨fun | 217 => 155 | 266 => 185 | n => n, fun | 9 => 9 | 5 => 5 | 3 => 3 | n => n, fun | n => n⟩
theorem Tryz.lays217 : Go.Proofs.Lays.n217 Tryz.prog Tryz.lays217_ren := {
  mixed := by kernel_rfl
  f217 := Tryz.func155.trans (congrArg some (by kernel_rfl))
  f266 := Tryz.func185.trans (congrArg some (by kernel_rfl))
  t3 := Tryz.underlying3
  a3 := Tryz.isAgg3
  z3 := Tryz.sizeOf3
  v3 := Tryz.zeroValue3
  t5 := Tryz.underlying5
  a5 := Tryz.isAgg5
  z5 := Tryz.sizeOf5
  v5 := Tryz.zeroValue5
  t9 := Tryz.underlying9
  a9 := Tryz.isAgg9
  z9 := Tryz.sizeOf9
  v9 := Tryz.zeroValue9 }
open Go.RowKit Go.Lib in
theorem Tryz.stringslite_IndexByte (s : ByteArray) (c : Int) (w : World) :
    Calls Tryz.prog 155 #[.string s, .int .u8 c] w fun e w' => e = .returned (.int .i64 (Lib.indexByte s.data.toList c.toNat.toUInt8)) ∧ w' = w := Any.stringslite_IndexByte Tryz.lays217 s c w
def Tryz.lays99_ren : Go.Shelf.Ren := ⟨fun | 99 => 153 | 206 => 181 | n => n, fun | 9 => 9 | 4 => 4 | 3 => 3 | n => n, fun | n => n⟩
theorem Tryz.lays99 : Go.Proofs.Lays.n99 Tryz.prog Tryz.lays99_ren := {
  mixed := by kernel_rfl
  f99 := Tryz.func153.trans (congrArg some (by kernel_rfl))
  f206 := Tryz.func181.trans (congrArg some (by kernel_rfl))
  t3 := Tryz.underlying3
  a3 := Tryz.isAgg3
  z3 := Tryz.sizeOf3
  v3 := Tryz.zeroValue3
  t4 := Tryz.underlying4
  a4 := Tryz.isAgg4
  z4 := Tryz.sizeOf4
  v4 := Tryz.zeroValue4
  t9 := Tryz.underlying9
  a9 := Tryz.isAgg9
  z9 := Tryz.sizeOf9
  v9 := Tryz.zeroValue9 }
open Go.RowKit Go.Lib in
theorem Tryz.strings_HasPrefix (s p : ByteArray) (w : World) :
    Calls Tryz.prog 153 #[.string s, .string p] w fun e w' => e = .returned (.bool (Lib.hasPrefix s.data.toList p.data.toList)) ∧ w' = w := Any.strings_HasPrefix Tryz.lays99 s p w
def Tryz.lays168_ren : Go.Shelf.Ren := ⟨fun | 168 => 162 | 240 => 158 | 242 => 190 | 276 => 187 | 278 => 204 | n => n, fun | 0 => 0 | 3 => 3 | 4 => 4 | 5 => 5 | 9 => 9 | 20 => 20 | 21 => 21 | 37 => 142 | 46 => 242 | 51 => 239 | 70 => 167 | 72 => 169 | 75 => 172 | 164 => 225 | 80 => 101 | n => n, fun | n => n⟩
theorem Tryz.lays168 : Go.Proofs.Lays.n168 Tryz.prog Tryz.lays168_ren := {
  mixed := by kernel_rfl
  f168 := Tryz.func162.trans (congrArg some (by kernel_rfl))
  f240 := Tryz.func158.trans (congrArg some (by kernel_rfl))
  f242 := Tryz.func190.trans (congrArg some (by kernel_rfl))
  f276 := Tryz.func187.trans (congrArg some (by kernel_rfl))
  f278 := Tryz.func204.trans (congrArg some (by kernel_rfl))
  t0 := Tryz.underlying0
  a0 := Tryz.isAgg0
  z0 := Tryz.sizeOf0
  v0 := Tryz.zeroValue0
  t3 := Tryz.underlying3
  a3 := Tryz.isAgg3
  z3 := Tryz.sizeOf3
  v3 := Tryz.zeroValue3
  t4 := Tryz.underlying4
  a4 := Tryz.isAgg4
  z4 := Tryz.sizeOf4
  v4 := Tryz.zeroValue4
  t5 := Tryz.underlying5
  a5 := Tryz.isAgg5
  z5 := Tryz.sizeOf5
  v5 := Tryz.zeroValue5
  t9 := Tryz.underlying9
  a9 := Tryz.isAgg9
  z9 := Tryz.sizeOf9
  v9 := Tryz.zeroValue9
  t20 := Tryz.underlying20
  a20 := Tryz.isAgg20
  z20 := Tryz.sizeOf20
  v20 := Tryz.zeroValue20
  t21 := Tryz.underlying21
  a21 := Tryz.isAgg21
  z21 := Tryz.sizeOf21
  v21 := Tryz.zeroValue21
  t37 := Tryz.underlying142
  a37 := Tryz.isAgg142
  z37 := Tryz.sizeOf142
  v37 := Tryz.zeroValue142
  t46 := Tryz.underlying242
  a46 := Tryz.isAgg242
  z46 := Tryz.sizeOf242
  v46 := Tryz.zeroValue242
  t51 := Tryz.underlying239
  a51 := Tryz.isAgg239
  z51 := Tryz.sizeOf239
  v51 := Tryz.zeroValue239
  t70 := Tryz.underlying167
  a70 := Tryz.isAgg167
  z70 := Tryz.sizeOf167
  v70 := Tryz.zeroValue167
  t72 := Tryz.underlying169
  a72 := Tryz.isAgg169
  z72 := Tryz.sizeOf169
  v72 := Tryz.zeroValue169
  t75 := Tryz.underlying172
  a75 := Tryz.isAgg172
  z75 := Tryz.sizeOf172
  v75 := Tryz.zeroValue172
  t164 := Tryz.underlying225
  a164 := Tryz.isAgg225
  z164 := Tryz.sizeOf225
  v164 := Tryz.zeroValue225 }
theorem Tryz.Builder_Extra_168 : Builder.Extra Tryz.prog Tryz.lays168_ren := {
  sizeBuilder := by kernel_rfl
  liesBuilder := by kernel_rfl
  t5 := Tryz.underlying5
  a5 := Tryz.isAgg5
  z5 := Tryz.sizeOf5
  v5 := Tryz.zeroValue5
  infoByte := by kernel_rfl
  cellsByte := by kernel_rfl
  sizeByte := by kernel_rfl
  neB5 := by decide }
open Go.RowKit in
theorem Tryz.Builder_WriteRune_k (B b : Nat) (bs : List Value) (r : Int) (hr0 : -2147483648 ≤ r) (hr1 : r ≤ 2147483647) (w : World) (h : Lib.IsBuilderF 169 5 B b bs w) (hlen : bs.length + 4 ≤ 140737488355328) (hBw : B ≤ w.heap.size) :
    Calls Tryz.prog 162 #[.pointer (some ⟨b, 0, none⟩), .int .i32 r] w fun e w' => e = .returned (.tuple #[.int .i64 (Lib.runeCells r).length, .nilIface]) ∧ (Lib.BuilderAtF 169 5 B b (.pointer (some ⟨b, 0, none⟩)) (bs ++ Lib.runeCells r) w' ∧ Below B w w' ∧ Lib.OthersKept 5 (some b) w w') := Any.Builder_WriteRune_k Tryz.lays168 Tryz.Builder_Extra_168 B b bs r hr0 hr1 w h hlen hBw
end Go.Proofs
end
section
namespace Go.Proofs.YtpcldpnaljheoaaGreatDoor
open Go.RowKit Go.Deep

theorem box_cells {w : World} {n : Nat} {cs : Array Value} {t : TypeId} {fz : Nat × Nat} (h : w.heap[n]? = some (.cells cs t fz)) : ∀ i, w.cell? ⟨n, i, none⟩ = cs[i]? := fun i => by
  unfold World.cell?
  simp [h]
theorem setCells_new (w : World) (T : TypeId) : ∀ (rest pre zs : List Value), rest.length = zs.length → (w.alloc (.cells ⟨pre ++ zs⟩ T)).setCells w.heap.size pre.length rest = w.alloc (.cells ⟨pre ++ rest⟩ T)
  | [], pre, zs, h => by
    obtain rfl : zs = [] := List.eq_nil_of_length_eq_zero h.symm
    rfl
  | v :: r, pre, zs, h => by
    match zs, h with
    | z :: zs, h =>
      have := setCells_new w T r (pre ++ [v]) zs (by simpa using h)
      rw [List.length_append, List.append_assoc, List.append_assoc] at this
      show ((w.alloc (.cells ⟨pre ++ z :: zs⟩ T)).setCell ⟨w.heap.size, pre.length, none⟩ v).setCells w.heap.size (pre.length + 1) r = _
      rw [World.setCell_alloc_new]
      have e : (⟨pre ++ z :: zs⟩ : Array Value).setIfInBounds pre.length v = ⟨pre ++ ([v] ++ zs)⟩ := by
        apply Array.ext'
        simp
      rw [e]
      exact this
theorem run_loadAgg {w : World} {T : TypeId} {k : Nat} (hag : ∀ w, (isAgg T).run Tryz.prog w = .ok true w) (hsz : ∀ w, (sizeOf T).run Tryz.prog w = .ok k w) {ad : Addr} {vs : List Value} (hlen : vs.length = k) (hc : ∀ j v, vs[j]? = some v → w.cell? (ad.add j) = some v) :
    (Instr.loadAt T (.pointer (some ad))).run Tryz.prog w = .ok (.agg ⟨vs⟩) w := by
  have h := run_loadCells_list (P := Tryz.prog) (w := w) ad vs hc
  rw [hlen] at h
  unfold Instr.loadAt loadVar
  simp [Instr.sureAddr, hag, hsz, h, Sem.run_bind]
theorem run_storeNew {w : World} {T : TypeId} {k : Nat} (hsz : ∀ w, (sizeOf T).run Tryz.prog w = .ok k w) {vs : List Value} (hlen : vs.length = k) (zs : Array Value) (hz : zs.size = k) (h1 : ∀ v ∈ vs, v.oneCell' = true) :
    (Instr.storeAt T (.pointer (some ⟨w.heap.size, 0, none⟩)) (.agg ⟨vs⟩)).run Tryz.prog (w.alloc (.cells zs T)) = .ok () (w.alloc (.cells ⟨vs⟩ T)) := by
  have h := run_storeCells_cells (P := Tryz.prog) w.heap.size 0 vs 0 (w.alloc (.cells zs T)) (fun j hj => by
    rw [box_cells (heap_new w (.cells zs T)), Array.getElem?_eq_getElem (by omega)]
    rfl) (fun j hj => World.frozen?_alloc_new w zs T _) h1
  have e := setCells_new w T vs [] zs.toList (by simpa [hz] using hlen)
  unfold Instr.storeAt storeVar
  simp [Instr.sureAddr, hsz, hlen, Value.cells, Sem.run_bind]
  rw [h]
  simpa using e
theorem add_mid2 (b o j : Nat) : (⟨b, o, none⟩ : Addr).add j = ⟨b, o + j, none⟩ := by unfold Addr.add; split <;> simp_all
theorem wp_loadAgg {ops : Array Oper} {rest : List Oper} {o : Oper} {a : Act} {Q : Exit → Act → World → Prop} (hgd : o.guard = none) (x : Operand) (T : TypeId) (ho : o.op = .load T x) (k : Nat) (hag : ∀ w, (isAgg T).run Tryz.prog w = .ok true w) (hsz : ∀ w, (sizeOf T).run Tryz.prog w = .ok k w)
    {w : World} (b off : Nat) (hx : a.eval x = .pointer (some ⟨b, off, none⟩)) (vs : List Value) (hlen : vs.length = k) (hc : ∀ j v, vs[j]? = some v → w.cell? ⟨b, off + j, none⟩ = some v)
    (hk : wpList Tryz.prog ops Q rest (a.put o.dst (.agg ⟨vs⟩)) w) : wpList Tryz.prog ops Q (o :: rest) a w := by
  refine wpList_plain hgd fun K hK => ?_
  unfold Oper.wp execOp
  simp only [ho, hx]
  rw [Sem.run_bind, run_loadAgg hag hsz hlen (fun j v hv => by rw [add_mid2]; exact hc j v hv)]
  exact hK _ _ hk
theorem wp_storeNew {ops : Array Oper} {rest : List Oper} {o : Oper} {a : Act} {Q : Exit → Act → World → Prop} (hgd : o.guard = none) (x y : Operand) (T : TypeId) (ho : o.op = .store T x y) (k : Nat) (hsz : ∀ w, (sizeOf T).run Tryz.prog w = .ok k w)
    {w : World} (zs : Array Value) (hz : zs.size = k) (hx : a.eval x = .pointer (some ⟨w.heap.size, 0, none⟩)) (vs : List Value) (hy : a.eval y = .agg ⟨vs⟩) (hlen : vs.length = k) (h1 : ∀ v ∈ vs, v.oneCell' = true)
    (hk : wpList Tryz.prog ops Q rest (a.put o.dst undef) (w.alloc (.cells ⟨vs⟩ T))) : wpList Tryz.prog ops Q (o :: rest) a (w.alloc (.cells zs T)) := by
  refine wpList_plain hgd fun K hK => ?_
  unfold Oper.wp execOp
  simp only [ho, hx, hy]
  rw [Sem.run_bind, run_storeNew hsz hlen zs hz h1]
  exact hK _ _ hk
theorem At.one {w : World} {v : Value} {d : D} (h : At w v d) : v.oneCell' = true := by
  cases h <;> rfl
theorem AllAt.one {w : World} : ∀ {vs : List Value} {ds : List D}, AllAt w vs ds → ∀ v ∈ vs, v.oneCell' = true
  | [], [], _, v, hv => by simp at hv
  | v :: vs, d :: ds, h, u, hu => by
    rcases List.mem_cons.1 hu with rfl | hu
    · exact h.1.one
    · exact AllAt.one h.2 u hu
  | [], _ :: _, h, _, _ => h.elim
  | _ :: _, [], h, _, _ => h.elim
end Go.Proofs.YtpcldpnaljheoaaGreatDoor
end
section
namespace Go.Proofs.YtpcldpnaljheoaaGreatDoor
open Go.RowKit

/-- A slice of texts. -/
def IsStrs (w : World) (a : Option Addr) (len cap : Nat) (ss : List ByteArray) : Prop :=
  ss.length = len ∧ len ≤ cap ∧ cap ≤ maxLen ∧ (∀ x ∈ ss, x.size ≤ maxLen) ∧ (len = 0 ∨ ∃ b o, a = some ⟨b, o, none⟩ ∧ b < w.heap.size ∧ ∀ j x, ss[j]? = some x → w.cell? ⟨b, o + j, none⟩ = some (.string x))
theorem IsStrs.kept {w w' : World} {a : Option Addr} {len cap : Nat} {ss : List ByteArray} (h : IsStrs w a len cap ss) (hs : w.heap.size ≤ w'.heap.size) (hb : ∀ b o, a = some ⟨b, o, none⟩ → b < w.heap.size → w'.heap[b]? = w.heap[b]?) : IsStrs w' a len cap ss := by
  obtain ⟨h1, h2, h3, h4, h5⟩ := h
  refine ⟨h1, h2, h3, h4, ?_⟩
  rcases h5 with h5 | ⟨b, o, e, hl, hc⟩
  · exact .inl h5
  · exact .inr ⟨b, o, e, by omega, fun j x hx => (cell_eq (hb b o e hl)).trans (hc j x hx)⟩
theorem IsStrs.below {w w' : World} {a : Option Addr} {len cap : Nat} {ss : List ByteArray} (h : IsStrs w a len cap ss) (hb : Below w.heap.size w w') : IsStrs w' a len cap ss :=
  h.kept hb.size fun b _ _ hl => hb.block b hl
theorem IsStrs.nil (w : World) : IsStrs w none 0 0 [] := ⟨rfl, Nat.le_refl _, by decide, by simp, .inl rfl⟩
theorem IsStrs.len_le {w : World} {a : Option Addr} {len cap : Nat} {ss : List ByteArray} (h : IsStrs w a len cap ss) : len ≤ 9223372036854775807 := by
  have h1 := h.2.1
  have h2 := h.2.2.1
  unfold maxLen at h2
  omega
theorem IsStrs.at {w : World} {a : Option Addr} {len cap : Nat} {ss : List ByteArray} (h : IsStrs w a len cap ss) {k : Nat} (hk : k < len) :
    ∃ b o x, a = some ⟨b, o, none⟩ ∧ ss[k]? = some x ∧ x.size ≤ maxLen ∧ w.cell? ⟨b, o + k, none⟩ = some (.string x) := by
  obtain ⟨x, hx⟩ : ∃ x, ss[k]? = some x := ⟨ss[k]'(by rw [h.1]; exact hk), List.getElem?_eq_getElem _⟩
  rcases h.2.2.2.2 with h00 | ⟨b, o, rfl, hbl, hcell⟩
  · omega
  · exact ⟨b, o, x, rfl, hx, h.2.2.2.1 x (List.mem_of_getElem? hx), hcell k x hx⟩

/-- v is a list of texts of one's own, from the block 'base' on. -/
def OwnS (base : Nat) (w : World) (v : Value) (ss : List ByteArray) : Prop := w.ownsRow base 9 1 v ss.length (ss.map Value.string)
theorem OwnS.nil (base : Nat) (w : World) : OwnS base w (.slice none 0 0) [] := World.ownsRow_nil _ _ _ _
theorem OwnS.lt {base : Nat} {w : World} {v : Value} {ss : List ByteArray} (h : OwnS base w v ss) (k : Nat) (hk : v.ownBlock = some k) : base ≤ k ∧ k < w.heap.size := World.ownsRow.lt h k hk
theorem OwnS.kept {base : Nat} {w w' : World} {v : Value} {ss : List ByteArray} (h : OwnS base w v ss) (hb : ∀ k, v.ownBlock = some k → w'.heap[k]? = w.heap[k]?) : OwnS base w' v ss := by
  refine ⟨h.1, ?_⟩
  rcases h.2 with h4 | ⟨g, cap, cur, hv, hb', hg, r⟩
  · exact .inl h4
  · exact .inr ⟨g, cap, cur, hv, hb', (hb g (by rw [hv]; rfl)).trans hg, r⟩
theorem OwnS.below {base : Nat} {w w' : World} {v : Value} {ss : List ByteArray} (h : OwnS base w v ss) (hb : Below w.heap.size w w') : OwnS base w' v ss :=
  h.kept fun k hk => hb.block k (h.lt k hk).2
theorem OwnS.strs {base : Nat} {w : World} {v : Value} {ss : List ByteArray} (h : OwnS base w v ss) (hs : ∀ x ∈ ss, x.size ≤ maxLen) : ∃ a cap, v = .slice a ss.length cap ∧ IsStrs w a ss.length cap ss := by
  rcases h.2 with ⟨rfl, h4⟩ | ⟨g, cap, cur, rfl, hb', hg, h1, h2, h3, h5⟩
  · have : ss = [] := List.eq_nil_of_length_eq_zero h4
    subst this
    exact ⟨none, 0, rfl, IsStrs.nil _⟩
  · refine ⟨_, cap, rfl, ⟨rfl, h1, h2, hs, .inr ⟨g, 0, rfl, heap_lt hg, fun j x hx => ?_⟩⟩⟩
    have hj := (List.getElem?_eq_some_iff.1 hx).1
    have e1 : cur.toList[j]? = (ss.map Value.string)[j]? := by rw [← h5, List.getElem?_take]; simp [hj]
    have e2 : cur[j]? = some (.string x) := by
      rw [List.getElem?_map, hx] at e1
      simpa using e1
    simp [World.cell?, hg, e2]
theorem OwnS.lit (w : World) (ss : List ByteArray) (hl : ss.length ≤ maxLen) : OwnS w.heap.size (w.alloc (.cells (ss.map Value.string).toArray 9)) (.slice (some ⟨w.heap.size, 0, none⟩) ss.length ss.length) ss :=
  ⟨by simp, .inr ⟨w.heap.size, ss.length, _, rfl, Nat.le_refl _, heap_new _ _, Nat.le_refl _, hl, by simp, List.take_of_length_le (by simp)⟩⟩
theorem isStrs_row {w : World} {n : Nat} {ss : List ByteArray} (hg : w.heap[n]? = some (.cells (ss.map Value.string).toArray 9 (0, 0))) (hl : ss.length ≤ maxLen) (hs : ∀ x ∈ ss, x.size ≤ maxLen) : IsStrs w (some ⟨n, 0, none⟩) ss.length ss.length ss := by
  refine ⟨rfl, Nat.le_refl _, hl, hs, .inr ⟨n, 0, rfl, heap_lt hg, fun j x hx => ?_⟩⟩
  simp [World.cell?, hg, hx]
theorem lit_strs (w : World) (ss : List ByteArray) (hl : ss.length ≤ maxLen) (hs : ∀ x ∈ ss, x.size ≤ maxLen) : IsStrs (w.alloc (.cells (ss.map Value.string).toArray 9)) (some ⟨w.heap.size, 0, none⟩) ss.length ss.length ss := isStrs_row (heap_new _ _) hl hs
theorem words_ok (d : Int) : ∀ x ∈ wordsOf d, x.size ≤ maxLen := fun x hx => by have := words_small d x hx; unfold maxLen; omega

set_option maxHeartbeats 400000 in
set_option maxRecDepth 100000 in
theorem all_pas (w : World) : Calls Tryz.prog 157 #[.int .i64 0] w fun e w' => e = .returned (.slice (some ⟨w.heap.size, 0, none⟩) 34 34) ∧ w' = w.alloc (.cells (pasW.map Value.string).toArray 9) := by
  go_enter Tryz.func157, Tryz.ntmps157
  go_wp2_with fail
  go_ret
  exact ⟨rfl, rfl⟩
set_option maxHeartbeats 400000 in
set_option maxRecDepth 100000 in
theorem all_cee (w : World) : Calls Tryz.prog 157 #[.int .i64 1] w fun e w' => e = .returned (.slice (some ⟨w.heap.size, 0, none⟩) 21 21) ∧ w' = w.alloc (.cells (ceeW.map Value.string).toArray 9) := by
  go_enter Tryz.func157, Tryz.ntmps157
  go_wp2_with fail
  go_ret
  exact ⟨rfl, rfl⟩
set_option maxHeartbeats 400000 in
set_option maxRecDepth 100000 in
theorem all_no (d : Int) (w : World) (h0 : d ≠ 0) (h1 : d ≠ 1) : Calls Tryz.prog 157 #[.int .i64 d] w fun e w' => e = .returned (.slice none 0 0) ∧ w' = w := by
  have e0 : (d == 0) = false := by simpa using h0
  have e1 : (d == 1) = false := by simpa using h1
  go_enter Tryz.func157, Tryz.ntmps157
  go_wp2_with fail
  go_ret
  exact ⟨rfl, rfl⟩
/-- What All leaves. -/
def AllPost (d : Int) (w : World) (e : Ending) (w' : World) : Prop := ∃ v, e = .returned v ∧ OwnS w.heap.size w' v (wordsOf d) ∧ Below w.heap.size w w'
theorem allPost_pas (w : World) : AllPost 0 w (.returned (.slice (some ⟨w.heap.size, 0, none⟩) 34 34)) (w.alloc (.cells (pasW.map Value.string).toArray 9)) :=
  ⟨_, rfl, OwnS.lit w pasW (by rw [pas_len]; decide), (Below.refl _ _).alloc (Nat.le_refl _) _⟩
theorem allPost_cee (w : World) : AllPost 1 w (.returned (.slice (some ⟨w.heap.size, 0, none⟩) 21 21)) (w.alloc (.cells (ceeW.map Value.string).toArray 9)) :=
  ⟨_, rfl, OwnS.lit w ceeW (by rw [cee_len]; decide), (Below.refl _ _).alloc (Nat.le_refl _) _⟩
theorem allPost_no (d : Int) (w : World) (h0 : d ≠ 0) (h1 : d ≠ 1) : AllPost d w (.returned (.slice none 0 0)) w :=
  ⟨_, rfl, by rw [wordsOf_no d h0 h1]; exact OwnS.nil _ _, Below.refl _ _⟩
theorem all_any (d : Int) (w : World) : Calls Tryz.prog 157 #[.int .i64 d] w (AllPost d w) := by
  by_cases h0 : d = 0
  · subst h0
    refine (all_pas w).mono ?_
    rintro e w' ⟨rfl, rfl⟩
    exact allPost_pas w
  · by_cases h1 : d = 1
    · subst h1
      refine (all_cee w).mono ?_
      rintro e w' ⟨rfl, rfl⟩
      exact allPost_cee w
    · refine (all_no d w h0 h1).mono ?_
      rintro e w' ⟨rfl, rfl⟩
      exact allPost_no d _ h0 h1
theorem isIn_take_succ {ss : List ByteArray} {k : Nat} {x s : ByteArray} (hx : ss[k]? = some x) (h : isIn s (ss.take k) = false) (hn : (x.toList == s.toList) = false) : isIn s (ss.take (k + 1)) = false := by
  rw [take_snoc hx]
  unfold isIn at h ⊢
  rw [List.any_append, h]
  simpa using hn
theorem isIn_take_hit {ss : List ByteArray} {k : Nat} {x s : ByteArray} (hx : ss[k]? = some x) (hn : (x.toList == s.toList) = true) : isIn s ss = true := by
  rw [isIn_iff, ← (beq_iff x s).1 hn]
  exact List.mem_of_getElem? hx

set_option maxHeartbeats 400000 in
theorem index_any (a : Option Addr) (len cap : Nat) (ss : List ByteArray) (s : ByteArray) (w : World) (hS : IsStrs w a len cap ss) :
    Calls Tryz.prog 186 #[.slice a len cap, .string s] w fun e w' => ∃ n : Int, e = .returned (.int .i64 n) ∧ decide (0 ≤ n) = isIn s ss ∧ w' = w := by
  have HS := Lib.hid hS
  have hcap := hS.len_le
  clear hS
  generalize hr : isIn s ss = r
  have HR := Lib.hid hr
  clear hr
  go_enter Tryz.func186, Tryz.ntmps186
  go_wp2_with fail
  go_loop [8] (fun i => ∃ k : Nat, k ≤ len ∧ i = .int .i64 k ∧ isIn s (ss.take k) = false) (fun i => len - (intOf i).toNat)
  case atStart => exact ⟨0, Nat.zero_le _, rfl, rfl⟩
  case round =>
    obtain ⟨k, hk, rfl, hno⟩ := hrel
    have HN := Lib.hid hno
    clear hno
    by_cases hlt : k < len
    · obtain ⟨b, o, x, rfl, hx, hxs, hc⟩ := HS.out.at hlt
      have HX := Lib.hid hx
      clear hx
      cases hb0 : x.toList == s.toList with
      | true =>
        have HT := isIn_take_hit HX.out hb0
        have hb : (s.toList == x.toList) = true := by rw [beq_iff, (beq_iff x s).1 hb0]
        clear hb0
        obtain rfl : r = true := by rw [← HR.out]; exact HT
        clear HT
        go_wp2_with fail
        go_ret
        exact ⟨_, rfl, by simp, rfl⟩
      | false =>
        have HT := Lib.hid (isIn_take_succ HX.out HN.out hb0)
        have hb : (s.toList == x.toList) = false := by rw [beq_false]; exact fun e => (beq_false x s).1 hb0 e.symm
        clear hb0
        go_wp2_with fail
        go_round
        case rel => exact ⟨k + 1, by omega, by go_num, HT.out⟩
        case measure => simp [intOf]; omega
    · obtain rfl : r = false := by
        rw [← HR.out, ← HN.out, List.take_of_length_le (by rw [HS.out.1]; omega)]
      go_wp2_with fail
      go_ret
      exact ⟨_, rfl, by decide, rfl⟩

set_option maxHeartbeats 400000 in
theorem contains_any (a : Option Addr) (len cap : Nat) (ss : List ByteArray) (s : ByteArray) (w : World) (hS : IsStrs w a len cap ss) :
    Calls Tryz.prog 156 #[.slice a len cap, .string s] w fun e w' => e = .returned (.bool (isIn s ss)) ∧ w' = w := by
  have HS := Lib.hid hS
  clear hS
  generalize hr : isIn s ss = r
  have HR := Lib.hid hr
  clear hr
  go_enter Tryz.func156, Tryz.ntmps156
  go_wp2_with fail
  refine (index_any a len cap ss s _ HS.out).mono ?_
  rintro e w' ⟨n, rfl, hn, rfl⟩
  rw [HR.out] at hn
  cases r with
  | true =>
    have h0 : 0 ≤ n := by simpa using hn
    clear hn
    go_wp2_with fail
    go_ret
    exact ⟨rfl, rfl⟩
  | false =>
    go_wp2_with fail
    go_ret
    exact ⟨by rw [← hn]; rfl, rfl⟩

set_option maxHeartbeats 400000 in
theorem is_any (d : Int) (s : ByteArray) (w : World) :
    Calls Tryz.prog 115 #[.int .i64 d, .string s] w fun e w' => e = .returned (.bool (isIn s (wordsOf d))) ∧ Below w.heap.size w w' := by
  go_enter Tryz.func115, Tryz.ntmps115
  go_wp2_with fail
  refine (all_any d _).mono ?_
  rintro e w1 ⟨v, rfl, ho, hb⟩
  obtain ⟨a, cap, rfl, hS⟩ := ho.strs (words_ok d)
  have HS := Lib.hid hS
  have HB := Lib.hid hb
  clear hS hb ho
  go_wp2_with fail
  refine (contains_any _ _ _ _ s _ HS.out).mono ?_
  rintro e w2 ⟨rfl, rfl⟩
  go_wp2_with fail
  go_ret
  exact ⟨rfl, HB.out⟩
end Go.Proofs.YtpcldpnaljheoaaGreatDoor
end
section
namespace Go.Proofs.YtpcldpnaljheoaaGreatDoor
open Go.RowKit

def bt (s : ByteArray) (k : Nat) : UInt8 := s.data.toList.getD k 0
theorem bt_eq (s : ByteArray) (k : Nat) (h : k < s.size) : s[k] = bt s k := by
  unfold bt
  rw [List.getD_eq_getElem?_getD, List.getElem?_eq_getElem (by simpa using h)]; rfl
def beg (c : UInt8) : Bool := decide (97 ≤ c.toNat) && decide (c.toNat ≤ 122)
def goOn (c : UInt8) : Bool := decide (c.toNat = 95) || (decide (48 ≤ c.toNat) && decide (c.toNat ≤ 57))
def letter (c : UInt8) (f : Bool) : Bool := beg c || (!f && goOn c)
/-- Spelt as a name. -/
def spelt (s : ByteArray) : Bool := decide (0 < s.size) && (List.range s.size).all fun j => letter (bt s j) (decide (j = 0))
theorem spelt_iff (s : ByteArray) : spelt s = true ↔ 0 < s.size ∧ ∀ j, j < s.size → letter (bt s j) (decide (j = 0)) = true := by
  unfold spelt
  rw [Bool.and_eq_true, decide_eq_true_iff, List.all_eq_true]
  simp only [List.mem_range]
def chk (s : ByteArray) : Nat := if spelt s then (if 32 < s.size then 3 else 0) else 11

theorem toNat_lt (c : UInt8) : c.toNat < 256 := c.toNat_lt
set_option maxHeartbeats 400000 in
theorem mayBegin_any (c : UInt8) (w : World) : Calls Tryz.prog 217 #[.int .u8 (c.toNat : Int)] w fun e w' => e = .returned (.bool (beg c)) ∧ w' = w := by
  unfold beg
  have hc := toNat_lt c
  generalize c.toNat = n at *
  by_cases h1 : 97 ≤ n
  · by_cases h2 : n ≤ 122
    · have d1 : decide ((97 : Int) ≤ (n : Int)) = true := by simp; omega
      have d2 : decide ((n : Int) ≤ (122 : Int)) = true := by simp; omega
      rw [show (decide (97 ≤ n) && decide (n ≤ 122)) = true by simp [h1, h2]]
      go_enter Tryz.func217, Tryz.ntmps217
      go_wp2_with fail
      go_ret
      exact ⟨rfl, rfl⟩
    · have d1 : decide ((97 : Int) ≤ (n : Int)) = true := by simp; omega
      have d2 : decide ((n : Int) ≤ (122 : Int)) = false := by simp; omega
      rw [show (decide (97 ≤ n) && decide (n ≤ 122)) = false by simp [h1, h2]]
      go_enter Tryz.func217, Tryz.ntmps217
      go_wp2_with fail
      go_ret
      exact ⟨rfl, rfl⟩
  · have d1 : decide ((97 : Int) ≤ (n : Int)) = false := by simp; omega
    rw [show (decide (97 ≤ n) && decide (n ≤ 122)) = false by simp [h1]]
    go_enter Tryz.func217, Tryz.ntmps217
    go_wp2_with fail
    go_ret
    exact ⟨rfl, rfl⟩
theorem int_beq_no {n : Nat} {m : Nat} (h : n ≠ m) : ((n : Int) == (m : Int)) = false := by simp; omega
set_option maxHeartbeats 400000 in
theorem mayGoOn_any (c : UInt8) (w : World) : Calls Tryz.prog 218 #[.int .u8 (c.toNat : Int)] w fun e w' => e = .returned (.bool (goOn c)) ∧ w' = w := by
  unfold goOn
  have hc := toNat_lt c
  generalize c.toNat = n at *
  by_cases h0 : n = 95
  · subst h0
    rw [show (decide (95 = 95) || (decide (48 ≤ 95) && decide (95 ≤ 57))) = true by decide]
    go_enter Tryz.func218, Tryz.ntmps218
    go_wp2_with fail
    go_ret
    exact ⟨rfl, rfl⟩
  · have d0 : ((n : Int) == (95 : Int)) = false := int_beq_no (m := 95) h0
    by_cases h1 : 48 ≤ n
    · have d1 : decide ((48 : Int) ≤ (n : Int)) = true := by simp; omega
      by_cases h2 : n ≤ 57
      · have d2 : decide ((n : Int) ≤ (57 : Int)) = true := by simp; omega
        rw [show (decide (n = 95) || (decide (48 ≤ n) && decide (n ≤ 57))) = true by simp [h1, h2]]
        clear h0
        go_enter Tryz.func218, Tryz.ntmps218
        go_wp2_with fail
        go_ret
        exact ⟨rfl, rfl⟩
      · have d2 : decide ((n : Int) ≤ (57 : Int)) = false := by simp; omega
        rw [show (decide (n = 95) || (decide (48 ≤ n) && decide (n ≤ 57))) = false by simp [h0, h2]]
        clear h0
        go_enter Tryz.func218, Tryz.ntmps218
        go_wp2_with fail
        go_ret
        exact ⟨rfl, rfl⟩
    · have d1 : decide ((48 : Int) ≤ (n : Int)) = false := by simp; omega
      rw [show (decide (n = 95) || (decide (48 ≤ n) && decide (n ≤ 57))) = false by simp [h0, h1]]
      clear h0
      go_enter Tryz.func218, Tryz.ntmps218
      go_wp2_with fail
      go_ret
      exact ⟨rfl, rfl⟩
theorem ba_empty (s : ByteArray) (h : s.size = 0) : s = ⟨#[]⟩ := by
  cases s with
  | mk d => congr; exact Array.eq_empty_of_size_eq_zero h
theorem toList_ne (s : ByteArray) (h : 0 < s.size) : ¬ s.toList = [] := by
  rw [ByteArray.toList_eq]
  intro e
  have : s.data.toList.length = s.size := by simp
  rw [e] at this
  simp at this
  omega
/-- The first k bytes are as a name's. -/
def speltTo (s : ByteArray) (k : Nat) : Prop := ∀ j, j < k → letter (bt s j) (decide (j = 0)) = true
theorem speltTo_succ {s : ByteArray} {k : Nat} (h : speltTo s k) (g : letter (bt s k) (decide (k = 0)) = true) : speltTo s (k + 1) := fun j hj => by
  by_cases e : j = k
  · rw [e]; exact g
  · exact h j (by omega)
theorem spelt_hit {s : ByteArray} {k : Nat} (hk : k < s.size) (g : letter (bt s k) (decide (k = 0)) = false) : spelt s = false := by
  rw [← Bool.not_eq_true, spelt_iff]
  intro h
  rw [h.2 k hk] at g
  cases g
theorem spelt_end {s : ByteArray} (h : speltTo s s.size) : spelt s = decide (0 < s.size) := by
  cases hd : decide (0 < s.size) with
  | true => rw [spelt_iff]; exact ⟨by simpa using hd, h⟩
  | false =>
    rw [← Bool.not_eq_true, spelt_iff]
    intro g
    have : ¬ 0 < s.size := by simpa using hd
    exact this g.1

set_option maxHeartbeats 800000 in
theorem spelt_any (s : ByteArray) (w : World) (hs : s.size ≤ maxLen) : Calls Tryz.prog 212 #[.string s] w fun e w' => e = .returned (.bool (spelt s)) ∧ w' = w := by
  unfold maxLen at hs
  generalize hr : spelt s = r
  have HR := Lib.hid hr
  clear hr
  go_enter Tryz.func212, Tryz.ntmps212
  go_wp2_with fail
  go_loop [6] (fun i => ∃ k : Nat, k ≤ s.size ∧ i = .int .i64 k ∧ speltTo s k) (fun i => s.size - (intOf i).toNat)
  case atStart => exact ⟨0, Nat.zero_le _, rfl, fun j hj => by omega⟩
  case round =>
    obtain ⟨k, hk, rfl, hno⟩ := hrel
    have HN := Lib.hid hno
    clear hno
    by_cases hlt : k < s.size
    · have HE := Lib.hid (bt_eq s k hlt)
      go_wp2_with fail
      refine (mayBegin_any s[k] _).mono ?_
      rintro e w1 ⟨rfl, rfl⟩
      cases hb : beg s[k] with
      | true =>
        have HL : letter (bt s k) (decide (k = 0)) = true := by unfold letter; rw [← HE.out, hb]; rfl
        have HT := Lib.hid (speltTo_succ HN.out HL)
        clear HL hb
        go_wp2_with fail
        go_round
        case rel => exact ⟨k + 1, by omega, by go_num, HT.out⟩
        case measure => simp [intOf]; omega
      | false =>
        by_cases h0 : k = 0
        · subst h0
          have HL : letter (bt s 0) (decide (0 = 0)) = false := by unfold letter; rw [← HE.out, hb]; rfl
          have HF := spelt_hit hlt HL
          rw [HR.out] at HF
          subst HF
          clear HL hb
          go_wp2_with fail
          go_ret
          exact ⟨rfl, rfl⟩
        · have e0 : ((k : Int) == 0) = false := int_beq_no (m := 0) h0
          have L : letter (bt s k) (decide (k = 0)) = goOn s[k] := by unfold letter; rw [← HE.out, hb]; simp [h0]
          have HL := Lib.hid L
          clear L hb h0
          go_wp2_with fail
          refine (mayGoOn_any s[k] _).mono ?_
          rintro e w1 ⟨rfl, rfl⟩
          cases hg : goOn s[k] with
          | true =>
            have HT := Lib.hid (speltTo_succ HN.out (HL.out.trans hg))
            clear hg
            go_wp2_with fail
            go_round
            case rel => exact ⟨k + 1, by omega, by go_num, HT.out⟩
            case measure => simp [intOf]; omega
          | false =>
            have HF := spelt_hit hlt (HL.out.trans hg)
            rw [HR.out] at HF
            subst HF
            clear hg
            go_wp2_with fail
            go_ret
            exact ⟨rfl, rfl⟩
    · have hk2 : k = s.size := by omega
      subst hk2
      have HF := spelt_end HN.out
      rw [HR.out] at HF
      by_cases hp : 0 < s.size
      · obtain rfl : r = true := by rw [HF]; simpa using hp
        have hne := toList_ne s hp
        have hne' : (!s.toList.isEmpty) = true := by simp [hne]
        clear HF
        go_wp2_with fail
        go_ret
        exact ⟨rfl, rfl⟩
      · have h0 := ba_empty s (by omega)
        subst h0
        obtain rfl : r = false := by rw [HF]; rfl
        clear HF
        go_wp2_with fail
        go_ret
        exact ⟨rfl, rfl⟩

set_option maxHeartbeats 400000 in
theorem check_any (s : ByteArray) (w : World) (hs : s.size ≤ maxLen) : Calls Tryz.prog 197 #[.string s] w fun e w' => e = .returned (.int .i64 (chk s : Nat)) ∧ w' = w := by
  generalize hr : chk s = r
  unfold chk at hr
  have HR := Lib.hid hr
  clear hr
  go_enter Tryz.func197, Tryz.ntmps197
  go_wp2_with fail
  refine (spelt_any s _ hs).mono ?_
  unfold maxLen at hs
  rintro e w1 ⟨rfl, rfl⟩
  have H := HR.out
  cases hsp : spelt s with
  | false =>
    rw [hsp] at H
    obtain rfl : 11 = r := H
    clear hsp
    go_wp2_with fail
    go_ret
    exact ⟨rfl, rfl⟩
  | true =>
    rw [hsp, if_pos rfl] at H
    by_cases h : 32 < s.size
    · rw [if_pos h] at H
      subst H
      clear hsp
      go_wp2_with fail
      go_ret
      exact ⟨rfl, rfl⟩
    · rw [if_neg h] at H
      subst H
      clear hsp
      go_wp2_with fail
      go_ret
      exact ⟨rfl, rfl⟩

end Go.Proofs.YtpcldpnaljheoaaGreatDoor
end
section
namespace Go.Proofs.YtpcldpnaljheoaaGreatDoor
open Go.RowKit Go.Deep

theorem ba_eq_iff (a b : ByteArray) : (a.toList == b.toList) = true ↔ a = b := by
  constructor
  · intro h
    have h' : a.toList = b.toList := by simpa using h
    rw [ByteArray.toList_eq, ByteArray.toList_eq] at h'
    cases a; cases b
    simp_all
  · rintro rfl; simp
theorem box_first (w : World) (a b : Obj) : ((w.alloc a).alloc b).heap[w.heap.size]? = some a := by
  rw [((Below.refl (w.alloc a).heap.size (w.alloc a)).alloc (Nat.le_refl _) b).block _ (by simp)]
  exact heap_new w a
theorem box_second (w : World) (a b : Obj) : ((w.alloc a).alloc b).heap[w.heap.size + 1]? = some b := by
  have := heap_new (w.alloc a) b
  rwa [World.size_alloc] at this
def nth (z : List D) (i : Nat) : D := z.getD i (.int 0)
theorem same_neq {α : Type} {x y : α} (h : same x y = false) : x ≠ y := fun e => by
  subst e
  rw [same_refl] at h
  cases h
end Go.Proofs.YtpcldpnaljheoaaGreatDoor
end
section
namespace Go.Proofs.YtpcldpnaljheoaaGreatDoor
open Go.RowKit Go.Deep

def splitD : List UInt8 → List (List UInt8)
  | [] => [[]]
  | c :: r => if c = 36 then [] :: splitD r else match splitD r with
    | h :: t => (c :: h) :: t
    | [] => [[c]]
theorem splitD_ne (l : List UInt8) : splitD l ≠ [] := by
  cases l with
  | nil => simp [splitD]
  | cons c r =>
    unfold splitD
    split
    · simp
    · split <;> simp
theorem splitD_cons_no {c : UInt8} {r : List UInt8} (h : c ≠ 36) : ∃ p t, splitD r = p :: t ∧ splitD (c :: r) = (c :: p) :: t := by
  cases e : splitD r with
  | nil => exact absurd e (splitD_ne r)
  | cons p t => exact ⟨p, t, rfl, by rw [splitD, if_neg h, e]⟩
theorem splitD_miss (l : List UInt8) (h : Lib.indexByte l 36 = -1) : splitD l = [l] := by
  induction l with
  | nil => rfl
  | cons c r ih =>
    unfold Lib.indexByte at h
    split at h
    · simp at h
    · rename_i hc
      have hc' : c ≠ 36 := by simpa using hc
      split at h
      · rename_i h1
        obtain ⟨p, t, e1, e2⟩ := splitD_cons_no (r := r) hc'
        rw [ih (by simpa using h1)] at e1
        simp at e1
        rw [e2, ← e1.1, ← e1.2]
      · have := Lib.indexByte_ge r 36
        rename_i h1
        have h1' : Lib.indexByte r 36 ≠ -1 := by simpa using h1
        omega
theorem splitD_hit (l : List UInt8) (i : Nat) (h : Lib.indexByte l 36 = i) : i < l.length ∧ splitD l = l.take i :: splitD (l.drop (i + 1)) := by
  induction l generalizing i with
  | nil => simp [Lib.indexByte] at h
  | cons c r ih =>
    unfold Lib.indexByte at h
    split at h
    · rename_i hc
      have hc' : c = 36 := by simpa using hc
      obtain rfl : i = 0 := by omega
      subst hc'
      exact ⟨by simp, by simp [splitD]⟩
    · rename_i hc
      have hc' : c ≠ 36 := by simpa using hc
      split at h
      · omega
      · have := Lib.indexByte_ge r 36
        rename_i h1
        have h1' : Lib.indexByte r 36 ≠ -1 := by simpa using h1
        obtain ⟨j, hj⟩ := Int.eq_ofNat_of_zero_le (show 0 ≤ Lib.indexByte r 36 by omega)
        obtain rfl : i = j + 1 := by omega
        obtain ⟨h2, h3⟩ := ih j hj
        obtain ⟨p, t, e1, e2⟩ := splitD_cons_no (r := r) hc'
        rw [h3] at e1
        simp at e1
        exact ⟨by simp; omega, by rw [e2, ← e1.1, ← e1.2]; simp⟩
def ba (l : List UInt8) : ByteArray := ⟨l.toArray⟩
theorem ba_data (s : ByteArray) : ba s.data.toList = s := by cases s; simp [ba]
theorem ba_list (l : List UInt8) : (ba l).data.toList = l := by simp [ba]
theorem ba_size (l : List UInt8) : (ba l).size = l.length := by simp [ba, ByteArray.size]
/-- A text's parts. -/
def parts (s : ByteArray) : List ByteArray := (splitD s.data.toList).map ba
theorem splitD_mem (l : List UInt8) : ∀ p ∈ splitD l, p.length ≤ l.length := by
  induction l with
  | nil => simp [splitD]
  | cons c r ih =>
    intro p hp
    unfold splitD at hp
    split at hp
    · rcases List.mem_cons.1 hp with rfl | hp
      · simp
      · have := ih p hp; simp; omega
    · split at hp
      · rename_i h t e
        rcases List.mem_cons.1 hp with rfl | hp
        · have := ih h (by rw [e]; simp); simp; omega
        · have := ih p (by rw [e]; simp [hp]); simp; omega
      · rename_i e
        exact absurd e (splitD_ne r)
theorem parts_mem (s : ByteArray) : ∀ p ∈ parts s, p.size ≤ s.size := fun p hp => by
  obtain ⟨q, hq, rfl⟩ := List.mem_map.1 hp
  have := splitD_mem s.data.toList q hq
  rw [ba_size]
  exact this
theorem parts_ne (s : ByteArray) : parts s ≠ [] := by simp [parts, splitD_ne]

set_option maxRecDepth 100000 in
set_option maxHeartbeats 1000000 in
theorem index_D (s : ByteArray) (w : World) : Calls Tryz.prog 219 #[.string s, .string ⟨#[36]⟩] w fun e w' => e = .returned (.int .i64 (Lib.indexByte s.data.toList 36)) ∧ w' = w := by
  cases hq : ([36] : List UInt8) == s.toList with
  | true =>
    have e : s.data.toList = [36] := by rw [← ByteArray.toList_eq]; exact (by simpa using hq : [36] = s.toList).symm
    have HE := Lib.hid e
    clear e
    go_enter Tryz.func219, Tryz.ntmps219
    go_wp2_with fail
    go_ret
    exact ⟨by rw [HE.out]; rfl, rfl⟩
  | false =>
    go_enter Tryz.func219, Tryz.ntmps219
    go_wp2_with fail
    change Calls Tryz.prog 155 #[Value.string s, Value.int IntKind.u8 36] w _
    refine (Tryz.stringslite_IndexByte s 36 _).mono ?_
    rintro e w' ⟨rfl, rfl⟩
    go_wp2_with fail
    go_ret
    exact ⟨rfl, rfl⟩
end Go.Proofs.YtpcldpnaljheoaaGreatDoor
end
section
namespace Go.Proofs.YtpcldpnaljheoaaGreatDoor
open Go.RowKit Go.Deep

/-- What Cut leaves. -/
def CutPost (s : ByteArray) (w : World) (e : Ending) (w' : World) : Prop := ∃ p r m, e = .returned (.tuple #[.string p, .string r, .bool m]) ∧ (∃ n, w' = w.drewN n) ∧ ((m = false ∧ parts s = [p]) ∨ (m = true ∧ parts s = p :: parts r ∧ r.size < s.size))
theorem ext_take (s : ByteArray) (k : Nat) : (s.extract 0 k).data.toList = s.data.toList.take k := by
  simp [ByteArray.data_extract, Array.toList_extract, List.extract_eq_take_drop]
theorem ext_drop (s : ByteArray) (k : Nat) : (s.extract k s.size).data.toList = s.data.toList.drop k := by
  simp only [ByteArray.data_extract, Array.toList_extract, List.extract_eq_take_drop]
  rw [List.take_of_length_le (by simp)]
theorem ba_take (s : ByteArray) (i : Nat) : s.extract 0 i = ba (s.data.toList.take i) := by
  rw [← ext_take, ba_data]
theorem ba_drop (s : ByteArray) (i : Nat) : s.extract i s.size = ba (s.data.toList.drop i) := by
  rw [← ext_drop, ba_data]
theorem cutPost_hit (s : ByteArray) (i n : Nat) (w : World) (h : Lib.indexByte s.data.toList 36 = i) : CutPost s w (.returned (.tuple #[.string (s.extract 0 i), .string (s.extract (i + 1) s.size), .bool true])) (w.drewN n) := by
  obtain ⟨h1, h2⟩ := splitD_hit _ i h
  refine ⟨_, _, true, rfl, ⟨n, rfl⟩, .inr ⟨rfl, ?_, ?_⟩⟩
  · unfold parts
    rw [h2, ba_take, ba_drop, ba_list]
    rfl
  · rw [ba_drop, ba_size, List.length_drop]
    have h3 : i < s.size := h1
    show s.size - (i + 1) < s.size
    omega
theorem cutPost_miss (s : ByteArray) (w : World) (h : Lib.indexByte s.data.toList 36 = -1) : CutPost s w (.returned (.tuple #[.string s, .string ⟨#[]⟩, .bool false])) w := by
  refine ⟨s, _, false, rfl, ⟨0, rfl⟩, .inl ⟨rfl, ?_⟩⟩
  unfold parts
  rw [splitD_miss _ h]
  simp [ba_data]
set_option maxRecDepth 100000 in
set_option maxHeartbeats 1000000 in
theorem cutLite_any (s : ByteArray) (w : World) (hs : s.size ≤ maxLen) : Calls Tryz.prog 216 #[.string s, .string ⟨#[36]⟩] w (CutPost s w) := by
  unfold maxLen at hs
  by_cases hm : Lib.indexByte s.data.toList 36 = -1
  · have HM := Lib.hid hm
    clear hm
    go_enter Tryz.func216, Tryz.ntmps216
    go_wp2_with fail
    refine (index_D s _).mono ?_
    rw [HM.out]
    rintro e w' ⟨rfl, rfl⟩
    go_wp2_with fail
    go_ret3
    exact cutPost_miss s _ HM.out
  · obtain ⟨i, hi⟩ := Int.eq_ofNat_of_zero_le (show 0 ≤ Lib.indexByte s.data.toList 36 by have := Lib.indexByte_ge s.data.toList 36; omega)
    have HI := Lib.hid hi
    have hlt : i < s.size := (splitD_hit _ i hi).1
    have c1 : (0 : Int) ≤ ↑i := by omega
    have c2 : (↑i : Int) ≤ ↑s.size := by omega
    have c3 : (0 : Int) ≤ ↑i + 1 := by omega
    have c4 : (↑i + 1 : Int) ≤ ↑s.size := by omega
    clear hi hm
    go_enter Tryz.func216, Tryz.ntmps216
    go_wp2_with fail
    refine (index_D s _).mono ?_
    rw [HI.out]
    rintro e w' ⟨rfl, rfl⟩
    go_wp2_with fail
    go_region
    go_wp2_with fail
    go_ret3
    exact cutPost_hit s i _ _ HI.out
set_option maxRecDepth 100000 in
set_option maxHeartbeats 1000000 in
theorem cut_any (s : ByteArray) (w : World) (hs : s.size ≤ maxLen) : Calls Tryz.prog 211 #[.string s, .string ⟨#[36]⟩] w (CutPost s w) := by
  go_enter Tryz.func211, Tryz.ntmps211
  go_wp2_with fail
  refine (cutLite_any s _ hs).mono ?_
  rintro e w' ⟨p, r, m, rfl, ⟨n, rfl⟩, h⟩
  have H := Lib.hid h
  clear h
  go_wp2_with fail
  go_ret3
  exact ⟨p, r, m, rfl, ⟨n, rfl⟩, H.out⟩
end Go.Proofs.YtpcldpnaljheoaaGreatDoor
end
section
namespace Go.Proofs.YtpcldpnaljheoaaGreatDoor
open Go.RowKit Go.Shelf Go.Deep
attribute [local go_sem] Oper.semAt_some

abbrev Tx (M : Nat) := { b : ByteArray // b.size ≤ M }
theorem grown_drewN (w : World) (q : Nat) : w.grownBy (w.drewN q) none := ⟨rfl, rfl, rfl, Nat.le_refl _, fun _ _ _ => rfl⟩
def leftOf : Value → Value → Nat
  | .string x, .bool true => x.size + 1
  | _, _ => 0

set_option maxRecDepth 100000 in
set_option maxHeartbeats 2000000 in
theorem parts_stops (M : Nat) (hM : M ≤ maxLen) (n : Nat) (hn : 1 ≤ n) (Bn : Nat) (s : ByteArray) (hs : s.size ≤ M) (Kp : World → World → Prop) (w : World) (hBn : w.cell? ⟨Bn, 0, none⟩ = some (.string s)) :
    SeqStopsK Fence.wide n Tryz.prog 210 #[.pointer (some ⟨Bn, 0, none⟩)] (fun x : Tx M => #[.string x.1]) Kp (fun xs => xs.map (·.1) = parts s) (fun pre => pre.map (·.1) <+: parts s) (parts s).length w := fun l J Jx W hW hJ _ hY h0 => by
  have hc : W.cell? ⟨Bn, 0, none⟩ = some (.string s) := by
    have hlt : Bn < w.heap.size := block_lt_of_cell hBn
    rw [hW.cell (p := ⟨Bn, 0, none⟩) hlt]
    exact hBn
  have HY := Lib.hid hY
  have HJ := Lib.hid hJ
  clear hY hJ hW hBn
  refine callsIn_of_wp Tryz.func210 rfl trivial ?_ rfl
  simp only [Tryz.ntmps210, List.size_toArray, List.length_cons, List.length_nil, Nat.reduceAdd, Nat.reduceSub, Array.replicate_succ, Array.replicate_zero, List.push_toArray, List.append_toArray, List.nil_append, List.cons_append]
  gi_wp2
  gi_loopw [3, 4] (fun p m wr => ∃ (pre : List (Tx M)) (left : ByteArray) (more : Bool), p = .string left ∧ m = .bool more ∧ (more = true → left.size ≤ M) ∧ J pre wr ∧ parts s = pre.map (·.1) ++ (if more then parts left else []))
    (fun p m _ => leftOf p m)
  case atStart =>
    exact ⟨[], s, true, rfl, rfl, fun _ => hs, h0, by simp⟩
  case round =>
    obtain ⟨pre, left, more, rfl, rfl, hl0, hJs, hp⟩ := hrel
    have HP := Lib.hid hp
    clear hp
    cases more with
    | false =>
      gi_wp2
      go_end0
      exact ⟨⟨_, rfl⟩, .inl ⟨pre, by simpa using HP.out.symm, hJs⟩⟩
    | true =>
      have hl := hl0 rfl
      clear hl0
      have hne : pre.length < (parts s).length := by
        rw [HP.out, List.length_append, List.length_map]
        have := List.length_pos_iff.2 (parts_ne left)
        simpa using this
      gi_wp2_with (refine ⟨trivial, ?_⟩; gi_at_call 211; refine (callsIn_wide.2 (cut_any left _ (Nat.le_trans hl hM))).mono ?_)
      rintro e w' ⟨p, r, m, rfl, ⟨q, rfl⟩, hcut⟩
      have hpl : p.size ≤ M := by
        have h1 : p ∈ parts left := by rcases hcut with ⟨_, h⟩ | ⟨_, h, _⟩ <;> simp [h]
        exact Nat.le_trans (parts_mem left p h1) hl
      have hrl : m = true → r.size ≤ M ∧ r.size < left.size := by
        rintro rfl
        rcases hcut with ⟨h, _⟩ | ⟨_, _, h⟩
        · cases h
        · exact ⟨by omega, h⟩
      have hnx : parts s = (pre ++ [(⟨p, hpl⟩ : Tx M)]).map (·.1) ++ (if m then parts r else []) := by
        rw [HP.out]
        rcases hcut with ⟨rfl, h⟩ | ⟨rfl, h, _⟩ <;> simp [h]
      have HR := Lib.hid hrl
      have HN := Lib.hid hnx
      clear hcut hrl hnx
      have hJ2 : J pre (wr.drewN q) := HJ.out pre wr _ none hJs (grown_drewN wr q) (by simp)
      obtain ⟨fn, tmps, assign, body, hy, hR⟩ := HY.out pre ⟨p, hpl⟩ (wr.drewN q) hJ2 hne
      dsimp only at hy
      gi_wp2
      refine hR.mono ?_
      rintro e W3 (⟨rfl, hJ3, _⟩ | ⟨rfl, hJx3⟩)
      · clear hy hR
        gi_wp2
        go_roundw
        case rel =>
          exact ⟨pre ++ [⟨p, hpl⟩], r, m, rfl, rfl, fun h => (HR.out h).1, hJ3, HN.out⟩
        case measure => cases m <;> simp [leftOf]; exact (HR.out rfl).2
      · gi_wp2
        refine bodyPost_ret (results_none rfl _ _ _) rfl ?_
        exact ⟨⟨_, rfl⟩, .inr ⟨pre ++ [⟨p, hpl⟩], ⟨_, HN.out.symm⟩, hJx3⟩⟩
end Go.Proofs.YtpcldpnaljheoaaGreatDoor
end
section
namespace Go.Proofs.YtpcldpnaljheoaaGreatDoor
open Go.RowKit Go.Shelf Go.Deep
attribute [local go_sem] Oper.semAt_some

section
variable {σ : Type} {g : Nat} {c1 c2 : Value}
end
theorem partsF_any (s : ByteArray) (w : World) : Calls Tryz.prog 196 #[.string s] w fun e w' => e = .returned (.func (.func 210) #[] #[.pointer (some ⟨w.heap.size, 0, none⟩)]) ∧ w' = w.alloc (.cells #[.string s] 9) := by
  go_enter Tryz.func196, Tryz.ntmps196
  go_wp2_with fail
  go_ret
  exact ⟨rfl, rfl⟩
end Go.Proofs.YtpcldpnaljheoaaGreatDoor
end
section
namespace Go.Proofs.YtpcldpnaljheoaaGreatDoor
open Go.RowKit Go.Shelf Go.Deep

theorem results_cell {fn : Func} {tmps : Array Value} {w : World} {i : Nat} {T : TypeId} {k : Nat} (hres : fn.results = #[.cell i T]) (hag : ∀ w, (isAgg T).run Tryz.prog w = .ok true w) (hsz : ∀ w, (sizeOf T).run Tryz.prog w = .ok k w) {b : Nat} (ht : tmps.getD i undef = .pointer (some ⟨b, 0, none⟩)) {vs : List Value} {T' : TypeId} {fz : Nat × Nat} (hlen : vs.length = k) (hb : w.heap[b]? = some (.cells ⟨vs⟩ T' fz)) :
    (results fn tmps).run Tryz.prog w = .ok (.agg ⟨vs⟩) w := by
  have h := run_loadCells_list (P := Tryz.prog) (w := w) ⟨b, 0, none⟩ vs (fun j v hv => by
    rw [add_mid2, Nat.zero_add, box_cells hb]
    simpa using hv)
  rw [hlen] at h
  rw [Array.getD_eq_getD_getElem?] at ht
  unfold results
  simp [hres, ht, loadVar, asAddr, hag, hsz, h, Sem.run_bind]

section
variable {σ : Type} {g : Nat} {c1 c2 : Value}
end
end Go.Proofs.YtpcldpnaljheoaaGreatDoor
end
section
namespace Go.Proofs.YtpcldpnaljheoaaGreatDoor
open Go.ChangeShapes Go.WideShapes Go.RowKit Go.Deep

section
variable {H : Type} {enc : TypeId × Value → H} {W : World}
theorem ShE.ln {ds : List D} (h : ShE ds) : ds.length = 5 := by cases h; rfl
end
end Go.Proofs.YtpcldpnaljheoaaGreatDoor
end
section
namespace Go.Proofs.YtpcldpnaljheoaaGreatDoor
open Go.RowKit Go.Shelf Go.Deep

noncomputable def Mk (P : Nat → Prop) (w : World) : World := { w with heap := w.heap.mapIdx fun i o => @ite _ (P i) (Classical.propDecidable _) (.cells #[] 0) o }
theorem mk_size (P : Nat → Prop) (w : World) : (Mk P w).heap.size = w.heap.size := by unfold Mk; simp
theorem mk_get {P : Nat → Prop} (w : World) {b : Nat} (h : ¬ P b) : (Mk P w).heap[b]? = w.heap[b]? := by
  unfold Mk
  simp only [Array.getElem?_mapIdx, if_neg h]
  cases w.heap[b]? <;> rfl
theorem mk_out {P : Nat → Prop} (w : World) {b : Nat} (h : P b) (i : Nat) : (Mk P w).cell? ⟨b, i, none⟩ = none := by
  have e : (Mk P w).heap[b]? = (w.heap[b]?).map fun _ => .cells #[] 0 := by
    unfold Mk
    simp only [Array.getElem?_mapIdx, if_pos h]
  unfold World.cell?
  rw [e]
  cases w.heap[b]? <;> simp
/-- What can be read of one world can be read of the other. -/
structure Sub (w w' : World) : Prop where
  size : w.heap.size ≤ w'.heap.size
  cell : ∀ (b i : Nat) (v : Value), w.cell? ⟨b, i, none⟩ = some v → w'.cell? ⟨b, i, none⟩ = some v
theorem Sub.trans {a b c : World} (h : Sub a b) (k : Sub b c) : Sub a c := ⟨Nat.le_trans h.size k.size, fun b i v e => k.cell b i v (h.cell b i v e)⟩
theorem At.sub {w w' : World} {v : Value} {d : D} (h : At w v d) (hb : Sub w w') : At w' v d := by
  induction h with
  | int n h1 h2 => exact .int n h1 h2
  | str s h => exact .str s h
  | bool b => exact .bool b
  | nil a cap h => exact .nil a cap h
  | row b o len cap k l cs h1 h2 h3 h4 h5 h6 h7 _ ih =>
    exact .row b o len cap k l cs h1 h2 h3 (Nat.lt_of_lt_of_le h4 hb.size) h5 h6 (fun j i v hj hv => hb.cell _ _ _ (h7 j i v hj hv)) fun j i ds v d h1 h2 h3 => ih j i ds v d h1 h2 h3
theorem AllAt.sub {w w' : World} : ∀ {vs : List Value} {ds : List D}, AllAt w vs ds → Sub w w' → AllAt w' vs ds
  | [], [], _, _ => trivial
  | _ :: _, _ :: _, h, hb => ⟨h.1.sub hb, AllAt.sub h.2 hb⟩
  | [], _ :: _, h, _ => h.elim
  | _ :: _, [], h, _ => h.elim
theorem cell_lt {w : World} {b i : Nat} {v : Value} (h : w.cell? ⟨b, i, none⟩ = some v) : b < w.heap.size := World.block_lt_of_cell? w ⟨b, i, none⟩ h
theorem sub_of_blocks {w w' : World} (hs : w.heap.size ≤ w'.heap.size) (P P' : Nat → Prop) (hb : ∀ b, b < w.heap.size → ¬ P b → ¬ P' b ∧ w'.heap[b]? = w.heap[b]?) : Sub (Mk P w) (Mk P' w') := by
  refine ⟨by rw [mk_size, mk_size]; exact hs, fun b i v h => ?_⟩
  have hl := cell_lt h
  rw [mk_size] at hl
  by_cases hp : P b
  · rw [mk_out w hp] at h; cases h
  · obtain ⟨h1, h2⟩ := hb b hl hp
    rw [← h]
    exact cell_eq ((mk_get w' h1).trans (h2.trans (mk_get w hp).symm))
theorem mk_sub (P : Nat → Prop) (w : World) : Sub (Mk P w) w := by
  refine ⟨by rw [mk_size]; exact Nat.le_refl _, fun b i v h => ?_⟩
  by_cases hp : P b
  · rw [mk_out w hp] at h; cases h
  · rw [← h]; exact cell_eq (mk_get w hp).symm
/-- What lay below all that is owned. -/
theorem sub_low {w0 w : World} (P : Nat → Prop) (hb : Below w0.heap.size w0 w) (hP : ∀ b, P b → w0.heap.size ≤ b) : Sub w0 (Mk P w) := by
  refine ⟨by rw [mk_size]; exact hb.size, fun b i v h => ?_⟩
  have hl := cell_lt h
  rw [← h]
  exact cell_eq ((mk_get w fun e => by have := hP b e; omega).trans (hb.block b hl))

end Go.Proofs.YtpcldpnaljheoaaGreatDoor
end
section
namespace Go.Proofs.YtpcldpnaljheoaaGreatDoor
open Go.RowKit Go.Deep

theorem _root_.Go.Below.drewR {B : Nat} {a w : World} (h : Below B a w) : Below B a w.drew := ⟨h.os, h.tape, h.output, h.size, h.block⟩
/-- No block has turned but p (and new ones). -/
structure Onl (p : Nat) (w w' : World) : Prop where
  os : w'.os = w.os
  tape : w'.tape = w.tape
  output : w'.output = w.output
  size : w.heap.size ≤ w'.heap.size
  block : ∀ k, k ≠ p → k < w.heap.size → w'.heap[k]? = w.heap[k]?
theorem Onl.refl (b : Nat) (w : World) : Onl b w w := ⟨rfl, rfl, rfl, Nat.le_refl _, fun _ _ _ => rfl⟩
theorem Onl.trans {b : Nat} {a c d : World} (h : Onl b a c) (k : Onl b c d) : Onl b a d :=
  ⟨k.os.trans h.os, k.tape.trans h.tape, k.output.trans h.output, Nat.le_trans h.size k.size, fun i hi hs => (k.block i hi (Nat.lt_of_lt_of_le hs h.size)).trans (h.block i hi hs)⟩
theorem Onl.of {b B : Nat} {a w : World} (h : Below B a w) (hB : a.heap.size ≤ B) : Onl b a w :=
  ⟨h.os, h.tape, h.output, h.size, fun k _ hs => h.block k (Nat.lt_of_lt_of_le hs hB)⟩
theorem Onl.below {b B : Nat} {a w : World} (h : Onl b a w) (hb : B ≤ b) (hB : B ≤ a.heap.size) : Below B a w :=
  ⟨h.os, h.tape, h.output, h.size, fun k hk => h.block k (by omega) (by omega)⟩
theorem Onl.setCell {b : Nat} {a w : World} (h : Onl b a w) {p : Addr} (hp : p.block = b) (u : Value) : Onl b a (w.setCell p u) :=
  h.trans ⟨rfl, rfl, rfl, by simp [World.setCell], fun k hk _ => Below.heap_setCell _ _ _ _ (by omega)⟩
theorem Onl.drewN {b : Nat} {a w : World} (h : Onl b a w) (n : Nat) : Onl b a (w.drewN n) := ⟨h.os, h.tape, h.output, h.size, h.block⟩
theorem Onl.drew {b : Nat} {a w : World} (h : Onl b a w) : Onl b a w.drew := ⟨h.os, h.tape, h.output, h.size, h.block⟩
theorem Onl.alloc {b : Nat} {a w : World} (h : Onl b a w) (o : Obj) : Onl b a (w.alloc o) := h.trans (Onl.of ((Below.refl _ _).alloc (Nat.le_refl _) o) (Nat.le_refl _))

/-- The world without block p. -/
noncomputable def Hd (p : Nat) (w : World) : World := Mk (fun b => b = p) w
theorem hd_cell {p b i : Nat} (w : World) (h : b ≠ p) : (Hd p w).cell? ⟨b, i, none⟩ = w.cell? ⟨b, i, none⟩ := cell_eq (mk_get w h)
theorem hd_size (p : Nat) (w : World) : (Hd p w).heap.size = w.heap.size := mk_size _ w
theorem Onl.sub {p : Nat} {w w' : World} (h : Onl p w w') : Sub (Hd p w) (Hd p w') :=
  sub_of_blocks h.size _ _ fun b hb hp => ⟨hp, h.block b hp hb⟩
theorem hd_sub (p : Nat) (w : World) : Sub (Hd p w) w := mk_sub _ w

def tokCells (t : Tok) : List Value := [.int .i64 (t.kind : Nat), .string t.text, .int .i64 (t.n : Nat), .bool t.same, .int .i64 (t.pos : Nat), .int .i64 (t.line : Nat), .int .i64 (t.col : Nat)]
def tokV (t : Tok) : Value := .agg ⟨tokCells t⟩
theorem tokCells_len (t : Tok) : (tokCells t).length = 7 := rfl
/-- What tokens are like. -/
structure TsOk (ts : List Tok) : Prop where
  ne : ts ≠ []
  len : ts.length ≤ 70000
  txt : ∀ t ∈ ts, t.text.size ≤ 70000
  num : ∀ t ∈ ts, t.n ≤ 9223372036854775807
structure ToksAt (g : Nat) (ts : List Tok) (w : World) : Prop where
  lt : g < w.heap.size
  cells : ∀ i t j v, ts[i]? = some t → (tokCells t)[j]? = some v → w.cell? ⟨g, i * 7 + j, none⟩ = some v
theorem ToksAt.kept {g : Nat} {ts : List Tok} {w w' : World} (h : ToksAt g ts w) (hs : w.heap.size ≤ w'.heap.size) (hb : w'.heap[g]? = w.heap[g]?) : ToksAt g ts w' :=
  ⟨Nat.lt_of_lt_of_le h.lt hs, fun i t j v h1 h2 => (cell_eq hb).trans (h.cells i t j v h1 h2)⟩

/-- A reader of tokens at block p, its tokens at block g. -/
structure RdAt (p g cap : Nat) (ts : List Tok) (s : RS) (w : World) : Prop where
  blk : w.heap[p]? = some (.cells #[.slice (some ⟨g, 0, none⟩) ts.length cap, .int .i64 (s.k : Nat), .int .i64 (s.f : Nat), .int .i64 (s.fp : Nat), .int .i64 (s.fl : Nat), .int .i64 (s.fc : Nat)] 119)
  toks : ToksAt g ts w
  ne : g ≠ p
  ok : TsOk ts
  kle : s.k ≤ ts.length
theorem RdAt.lt {p g cap : Nat} {ts : List Tok} {s : RS} {w : World} (h : RdAt p g cap ts s w) : p < w.heap.size := heap_lt h.blk
theorem RdAt.below {p g cap : Nat} {ts : List Tok} {s : RS} {w w' : World} (h : RdAt p g cap ts s w) (hb : Below w.heap.size w w') : RdAt p g cap ts s w' :=
  ⟨(hb.block _ h.lt).trans h.blk, h.toks.kept hb.size (hb.block _ h.toks.lt), h.ne, h.ok, h.kle⟩
theorem RdAt.alloc {p g cap : Nat} {ts : List Tok} {s : RS} {w : World} (h : RdAt p g cap ts s w) (o : Obj) : RdAt p g cap ts s (w.alloc o) :=
  h.below ((Below.refl _ _).alloc (Nat.le_refl _) o)
theorem RdAt.c {p g cap : Nat} {ts : List Tok} {s : RS} {w : World} (h : RdAt p g cap ts s w) (i : Nat) :
    w.cell? ⟨p, i, none⟩ = (#[.slice (some ⟨g, 0, none⟩) ts.length cap, .int .i64 (s.k : Nat), .int .i64 (s.f : Nat), .int .i64 (s.fp : Nat), .int .i64 (s.fl : Nat), .int .i64 (s.fc : Nat)] : Array Value)[i]? := box_cells h.blk i
theorem RdAt.fz {p g cap : Nat} {ts : List Tok} {s : RS} {w : World} (h : RdAt p g cap ts s w) (o : Nat) : w.frozen? ⟨p, o, none⟩ = false := by
  simp [World.frozen?, h.blk]
theorem cur_k {ts : List Tok} {s : RS} (h : (cur ts s).kind ≠ 0) : s.f = 0 ∧ s.k < ts.length ∧ ts[s.k]? = some (cur ts s) := by
  unfold cur at h ⊢
  have he : (endT ts).kind = 0 := by unfold endT; split <;> rfl
  by_cases hf : s.f = 0
  · rw [if_pos hf] at h ⊢
    cases hx : ts[s.k]? with
    | none => rw [hx] at h; exact absurd he h
    | some t => exact ⟨hf, (List.getElem?_eq_some_iff.1 hx).1, rfl⟩
  · rw [if_neg hf] at h
    exact absurd he h
theorem isW_kind {t : Tok} {l : List ByteArray} (h : isW t l = true) : t.kind ≠ 0 := by
  unfold isW at h
  intro e
  rw [e] at h
  simp at h
theorem isT_k {ts : List Tok} {s : RS} {l : List ByteArray} (h : isT ts s l = true) : s.f = 0 ∧ s.k < ts.length ∧ ts[s.k]? = some (cur ts s) := cur_k (isW_kind h)
theorem left_step {ts : List Tok} {s : RS} (h : s.f = 0 ∧ s.k < ts.length ∧ ts[s.k]? = some (cur ts s)) : leftS ts (stepS s) < leftS ts s := by
  obtain ⟨hf, hk, _⟩ := h
  unfold leftS stepS
  simp only [hf, if_true]
  omega
end Go.Proofs.YtpcldpnaljheoaaGreatDoor
end
section
namespace Go.Proofs.YtpcldpnaljheoaaGreatDoor
open Go.RowKit Go.Deep

theorem failed_any {p g cap : Nat} {ts : List Tok} {s : RS} {w : World} (h : RdAt p g cap ts s w) :
    Calls Tryz.prog 40 #[.pointer (some ⟨p, 0, none⟩)] w fun e w' => e = .returned (.bool ((s.f : Int) != 0)) ∧ w' = w := by
  have c2 : w.cell? ⟨p, 2, none⟩ = some (.int .i64 (s.f : Nat)) := h.c 2
  clear h
  go_enter Tryz.func40, Tryz.ntmps40
  go_wp2_with fail
  go_ret
  exact ⟨rfl, rfl⟩
theorem at_any {p g cap : Nat} {ts : List Tok} {s : RS} {w : World} (h : RdAt p g cap ts s w) :
    Calls Tryz.prog 130 #[.pointer (some ⟨p, 0, none⟩)] w fun e w' => e = .returned (.int .i64 (s.k : Nat)) ∧ w' = w := by
  have c1 : w.cell? ⟨p, 1, none⟩ = some (.int .i64 (s.k : Nat)) := h.c 1
  clear h
  go_enter Tryz.func130, Tryz.ntmps130
  go_wp2_with fail
  go_ret
  exact ⟨rfl, rfl⟩
def diagS (s : RS) : Value := .agg #[.int .i64 (s.f : Nat), .int .i64 (s.fp : Nat), .int .i64 (s.fl : Nat), .int .i64 (s.fc : Nat)]
theorem fault_any {p g cap : Nat} {ts : List Tok} {s : RS} {w : World} (h : RdAt p g cap ts s w) :
    Calls Tryz.prog 41 #[.pointer (some ⟨p, 0, none⟩)] w fun e w' => e = .returned (diagS s) ∧ Below w.heap.size w w' := by
  have c2 : w.cell? ⟨p, 2, none⟩ = some (.int .i64 (s.f : Nat)) := h.c 2
  have c3 : w.cell? ⟨p, 3, none⟩ = some (.int .i64 (s.fp : Nat)) := h.c 3
  have c4 : w.cell? ⟨p, 4, none⟩ = some (.int .i64 (s.fl : Nat)) := h.c 4
  have c5 : w.cell? ⟨p, 5, none⟩ = some (.int .i64 (s.fc : Nat)) := h.c 5
  have hl := h.lt
  clear h
  go_enter Tryz.func41, Tryz.ntmps41
  go_wp2_with fail
  refine bodyPost_ret (v := diagS s) (results_cell (i := 2) (b := w.heap.size) Tryz.results41 Tryz.isAgg30 Tryz.sizeOf30 rfl rfl (heap_new w _)) rfl ⟨rfl, (Below.refl _ _).alloc (Nat.le_refl _) _⟩
theorem newR_any {g cap : Nat} {ts : List Tok} {k : Nat} {w : World} (ht : ToksAt g ts w) (hok : TsOk ts) (hk : k ≤ ts.length) :
    Calls Tryz.prog 38 #[.slice (some ⟨g, 0, none⟩) ts.length cap, .int .i64 (k : Nat)] w fun e w' => e = .returned (.pointer (some ⟨w.heap.size, 0, none⟩)) ∧ RdAt w.heap.size g cap ts ⟨k, 0, 0, 0, 0⟩ w' ∧ Below w.heap.size w w' := by
  have B := Lib.hid ((Below.refl w.heap.size w).alloc (Nat.le_refl _) (.cells #[.slice (some ⟨g, 0, none⟩) ts.length cap, .int .i64 (k : Nat), .int .i64 0, .int .i64 0, .int .i64 0, .int .i64 0] 119))
  have R := Lib.hid (show RdAt w.heap.size g cap ts ⟨k, 0, 0, 0, 0⟩ (w.alloc (.cells #[.slice (some ⟨g, 0, none⟩) ts.length cap, .int .i64 (k : Nat), .int .i64 0, .int .i64 0, .int .i64 0, .int .i64 0] 119)) from
    ⟨heap_new _ _, ht.kept B.out.size (B.out.block _ ht.lt), by have := ht.lt; omega, hok, hk⟩)
  clear ht hok hk
  go_enter Tryz.func38, Tryz.ntmps38
  go_wp2_with fail
  go_ret
  exact ⟨rfl, R.out, B.out⟩
end Go.Proofs.YtpcldpnaljheoaaGreatDoor
end
section
namespace Go.Proofs.YtpcldpnaljheoaaGreatDoor
open Go.RowKit Go.Deep

theorem ToksAt.c {g : Nat} {ts : List Tok} {w : World} (h : ToksAt g ts w) {i : Nat} {t : Tok} (ht : ts[i]? = some t) (j : Nat) (hj : j < 7) : w.cell? ⟨g, i * 7 + j, none⟩ = (tokCells t)[j]? := by
  have : ∃ v, (tokCells t)[j]? = some v := ⟨_, List.getElem?_eq_getElem (by rw [tokCells_len]; exact hj)⟩
  obtain ⟨v, hv⟩ := this
  rw [hv]
  exact h.cells i t j v ht hv
theorem endT_eq {ts : List Tok} (hne : ts ≠ []) : ∃ t, ts[ts.length - 1]? = some t ∧ endT ts = ⟨0, ⟨#[]⟩, 0, false, t.pos, t.line, t.col⟩ := by
  have h := List.getLast?_eq_getElem? (l := ts)
  have hl : 0 < ts.length := List.length_pos_iff.2 hne
  refine ⟨ts[ts.length - 1]'(by omega), List.getElem?_eq_getElem _, ?_⟩
  unfold endT
  rw [h, List.getElem?_eq_getElem (by omega)]
set_option maxRecDepth 100000 in
set_option maxHeartbeats 1000000 in
theorem end_any {p g cap : Nat} {ts : List Tok} {s : RS} {w : World} (h : RdAt p g cap ts s w) :
    Calls Tryz.prog 151 #[.pointer (some ⟨p, 0, none⟩)] w fun e w' => e = .returned (tokV (endT ts)) ∧ Below w.heap.size w w' := by
  obtain ⟨t, ht, he⟩ := endT_eq h.ok.ne
  rw [he]
  have c0 : w.cell? ⟨p, 0, none⟩ = some (.slice (some ⟨g, 0, none⟩) ts.length cap) := h.c 0
  have hl := h.lt
  have hg := h.toks.lt
  have hn : 0 < ts.length := List.length_pos_iff.2 h.ok.ne
  have hlen := h.ok.len
  have t4 : w.cell? ⟨g, (ts.length - 1) * 7 + 4, none⟩ = some (.int .i64 (t.pos : Nat)) := h.toks.c ht 4 (by decide)
  have t5 : w.cell? ⟨g, (ts.length - 1) * 7 + 5, none⟩ = some (.int .i64 (t.line : Nat)) := h.toks.c ht 5 (by decide)
  have t6 : w.cell? ⟨g, (ts.length - 1) * 7 + 6, none⟩ = some (.int .i64 (t.col : Nat)) := h.toks.c ht 6 (by decide)
  clear h ht he
  generalize hq : ts.length - 1 = q at t4 t5 t6
  generalize ts.length = n at *
  have d : decide ((n : Int) > 0) = true := by simp; omega
  have d' : decide ((0 : Int) < (n : Int)) = true := by simp; omega
  have hw : IntKind.i64.wrap ((n : Int) - 1) = (q : Int) := by rw [IntWalk.i64_in _ (by omega)]; omega
  have hq1 : (0 : Int) ≤ (q : Int) := by omega
  have hq2 : (q : Int) < (n : Int) := by omega
  have Z := (Below.refl w.heap.size w).alloc (Nat.le_refl _) (.cells #[.int .i64 0, .string ⟨#[]⟩, .int .i64 0, .bool false, .int .i64 0, .int .i64 0, .int .i64 0] 50)
  have Z2 := Z.alloc Z.size (.cells #[.int .i64 0, .string ⟨#[]⟩, .int .i64 0, .bool false, .int .i64 0, .int .i64 0, .int .i64 0] 50)
  have C0 := Lib.hid ((cell_eq (o := 0) (Z2.block p hl)).trans c0)
  have T4 := Lib.hid ((cell_eq (o := q * 7 + 4) (Z2.block g hg)).trans t4)
  have T5 := Lib.hid ((cell_eq (o := q * 7 + 5) (Z2.block g hg)).trans t5)
  have T6 := Lib.hid ((cell_eq (o := q * 7 + 6) (Z2.block g hg)).trans t6)
  have K0 := Lib.hid ((((Below.refl (w.heap.size + 1) (w.alloc (.cells #[.int .i64 0, .string ⟨#[]⟩, .int .i64 0, .bool false, .int .i64 0, .int .i64 0, .int .i64 0] 50))).alloc (by simp) (.cells #[.int .i64 0, .string ⟨#[]⟩, .int .i64 0, .bool false, .int .i64 0, .int .i64 0, .int .i64 0] 50)).block w.heap.size (by omega)).trans (heap_new w _))
  have K1 := Lib.hid (heap_new (w.alloc (.cells #[.int .i64 0, .string ⟨#[]⟩, .int .i64 0, .bool false, .int .i64 0, .int .i64 0, .int .i64 0] 50)) (.cells #[.int .i64 0, .string ⟨#[]⟩, .int .i64 0, .bool false, .int .i64 0, .int .i64 0, .int .i64 0] 50))
  have ZB := Lib.hid Z2
  clear Z Z2 t4 t5 t6
  go_enter Tryz.func151, Tryz.ntmps151
  go_wp2_with fail
  rw [show (w.alloc (.cells #[.int .i64 0, .string ⟨#[]⟩, .int .i64 0, .bool false, .int .i64 0, .int .i64 0, .int .i64 0] 50)).heap.size = w.heap.size + 1 by simp] at K1
  generalize (w.alloc (.cells #[.int .i64 0, .string ⟨#[]⟩, .int .i64 0, .bool false, .int .i64 0, .int .i64 0, .int .i64 0] 50)).alloc (.cells #[.int .i64 0, .string ⟨#[]⟩, .int .i64 0, .bool false, .int .i64 0, .int .i64 0, .int .i64 0] 50) = W at C0 T4 T5 T6 K0 K1 ZB ⊢
  have c0 := C0.out
  have t4 := T4.out
  have t5 := T5.out
  have t6 := T6.out
  have k1 := box_cells K1.out
  have kf : ∀ o, W.frozen? ⟨w.heap.size + 1, o, none⟩ = false := fun o => by simp [World.frozen?, K1.out]
  have kf0 : ∀ o, W.frozen? ⟨w.heap.size, o, none⟩ = false := fun o => by simp [World.frozen?, K0.out]
  have k0 := box_cells K0.out
  have hzl := heap_lt K0.out
  have hzl1 := heap_lt K1.out
  go_still_tail 13, (by kernel_rfl)
  go_wp2_with fail
  refine bodyPost_ret (v := tokV ⟨0, ⟨#[]⟩, 0, false, t.pos, t.line, t.col⟩) (by simp [results, Tryz.results151, go_sem, k0, tokV, tokCells]) rfl ⟨rfl, ?_⟩
  refine Below.drewR ?_
  repeat (refine Below.setCell ?_ (by simp) _)
  exact ZB.out
end Go.Proofs.YtpcldpnaljheoaaGreatDoor
end
section
namespace Go.Proofs.YtpcldpnaljheoaaGreatDoor
open Go.RowKit Go.Deep Go.Sort

theorem cur_f {ts : List Tok} {s : RS} (h : s.f ≠ 0) : cur ts s = endT ts := by unfold cur; rw [if_neg h]
theorem cur_out {ts : List Tok} {s : RS} (h : ts.length ≤ s.k) : cur ts s = endT ts := by
  unfold cur
  split
  · rw [List.getElem?_eq_none h]; rfl
  · rfl
theorem cur_in {ts : List Tok} {s : RS} {t : Tok} (hf : s.f = 0) (h : ts[s.k]? = some t) : cur ts s = t := by
  unfold cur
  rw [if_pos hf, h]; rfl
def zeroTok : Array Value := #[.int .i64 0, .string ⟨#[]⟩, .int .i64 0, .bool false, .int .i64 0, .int .i64 0, .int .i64 0]
set_option maxRecDepth 100000 in
set_option maxHeartbeats 1000000 in
theorem tok_end {p g cap : Nat} {ts : List Tok} {s : RS} {k : Nat} {w : World} (h : RdAt p g cap ts s w) (hx : s.f ≠ 0 ∨ ts.length ≤ k) :
    Calls Tryz.prog 104 #[.pointer (some ⟨p, 0, none⟩), .int .i64 (k : Nat)] w fun e w' => e = .returned (tokV (endT ts)) ∧ Below w.heap.size w w' := by
  have Z := (Below.refl w.heap.size w).alloc (Nat.le_refl _) (.cells #[.int .i64 0, .string ⟨#[]⟩, .int .i64 0, .bool false, .int .i64 0, .int .i64 0, .int .i64 0] 50)
  have R0 := Lib.hid (h.below Z)
  have HE := Lib.hid (end_any (h.below Z))
  have HF := Lib.hid (failed_any (h.below Z))
  generalize endT ts = t at HE ⊢
  have c0 : (w.alloc (.cells #[.int .i64 0, .string ⟨#[]⟩, .int .i64 0, .bool false, .int .i64 0, .int .i64 0, .int .i64 0] 50)).cell? ⟨p, 0, none⟩ = some (.slice (some ⟨g, 0, none⟩) ts.length cap) := R0.out.c 0
  have K0 := Lib.hid (heap_new w (.cells #[.int .i64 0, .string ⟨#[]⟩, .int .i64 0, .bool false, .int .i64 0, .int .i64 0, .int .i64 0] 50))
  have ZB := Lib.hid Z
  have hlen := h.ok.len
  generalize hb : ((s.f : Int) != 0) = b at HF
  have hd : b = false → decide ((k : Int) < (ts.length : Int)) = false := by
    intro e
    rw [e] at hb
    have : s.f = 0 := by simpa using hb
    simp only [decide_eq_false_iff_not]
    omega
  have dk : decide ((0 : Int) ≤ (k : Int)) = true := by simp
  have gl : ((ts.length : Nat) : Int) ≤ 9223372036854775807 := by omega
  generalize ts.length = n at *
  clear h Z hx hb R0
  go_enter Tryz.func104, Tryz.ntmps104
  go_wp2_with fail
  generalize w.alloc (.cells #[.int .i64 0, .string ⟨#[]⟩, .int .i64 0, .bool false, .int .i64 0, .int .i64 0, .int .i64 0] 50) = W at HE HF c0 K0 ZB ⊢
  refine HF.out.mono ?_
  rintro e w1 ⟨rfl, rfl⟩
  cases b with
  | true =>
    clear hd
    go_wp2_with fail
    refine HE.out.mono ?_
    rintro e w2 ⟨rfl, b2⟩
    have K2 := Lib.hid ((b2.block _ (heap_lt K0.out)).trans K0.out)
    have B2 := Lib.hid (ZB.out.trans (b2.mono ZB.out.size))
    have kf0 : ∀ o, w2.frozen? ⟨w.heap.size, o, none⟩ = false := fun o => by simp [World.frozen?, K2.out]
    have k0 := box_cells K2.out
    unfold tokV tokCells
    clear b2 c0
    go_wp2_with fail
    refine bodyPost_ret (v := tokV t) (by simp [results, Tryz.results104, go_sem, k0, tokV, tokCells]) rfl ⟨rfl, ?_⟩
    repeat (refine Below.setCell ?_ (by simp) _)
    exact B2.out
  | false =>
    have hd := hd rfl
    have hdn : ¬ k < n := by simp only [decide_eq_false_iff_not] at hd; omega
    have hdn2 : decide (k < n) = false := by simpa using hdn
    go_wp2_with fail
    refine HE.out.mono ?_
    rintro e w2 ⟨rfl, b2⟩
    have K2 := Lib.hid ((b2.block _ (heap_lt K0.out)).trans K0.out)
    have B2 := Lib.hid (ZB.out.trans (b2.mono ZB.out.size))
    have kf0 : ∀ o, w2.frozen? ⟨w.heap.size, o, none⟩ = false := fun o => by simp [World.frozen?, K2.out]
    have k0 := box_cells K2.out
    unfold tokV tokCells
    clear b2 c0
    go_wp2_with fail
    refine bodyPost_ret (v := tokV t) (by simp [results, Tryz.results104, go_sem, k0, tokV, tokCells]) rfl ⟨rfl, ?_⟩
    repeat (refine Below.setCell ?_ (by simp) _)
    exact B2.out
set_option maxRecDepth 100000 in
set_option maxHeartbeats 1000000 in
theorem tok_in {p g cap : Nat} {ts : List Tok} {s : RS} {k : Nat} {w : World} (h : RdAt p g cap ts s w) (hx : s.f = 0) {t : Tok} (ht : ts[k]? = some t) :
    Calls Tryz.prog 104 #[.pointer (some ⟨p, 0, none⟩), .int .i64 (k : Nat)] w fun e w' => e = .returned (tokV t) ∧ Below w.heap.size w w' := by
  have Z := (Below.refl w.heap.size w).alloc (Nat.le_refl _) (.cells #[.int .i64 0, .string ⟨#[]⟩, .int .i64 0, .bool false, .int .i64 0, .int .i64 0, .int .i64 0] 50)
  have R0 := Lib.hid (h.below Z)
  have HF := Lib.hid (failed_any (h.below Z))
  rw [show ((s.f : Int) != 0) = false by rw [hx]; rfl] at HF
  have K0 := Lib.hid (heap_new w (.cells #[.int .i64 0, .string ⟨#[]⟩, .int .i64 0, .bool false, .int .i64 0, .int .i64 0, .int .i64 0] 50))
  have ZB := Lib.hid Z
  have hlen := h.ok.len
  have hk : k < ts.length := (List.getElem?_eq_some_iff.1 ht).1
  have hd : decide ((k : Int) < (ts.length : Int)) = true := by simp; omega
  have dk : decide ((0 : Int) ≤ (k : Int)) = true := by simp
  have gl : ((ts.length : Nat) : Int) ≤ 9223372036854775807 := by omega
  have HT := Lib.hid ht
  have hk1 : (0 : Int) ≤ (k : Int) := by omega
  have hk2 : (k : Int) < (ts.length : Int) := by omega
  clear h Z hx ht
  go_enter Tryz.func104, Tryz.ntmps104
  go_wp2_with fail
  generalize w.alloc (.cells #[.int .i64 0, .string ⟨#[]⟩, .int .i64 0, .bool false, .int .i64 0, .int .i64 0, .int .i64 0] 50) = W at R0 K0 ZB HF ⊢
  refine HF.out.mono ?_
  rintro e w1 ⟨rfl, rfl⟩
  have c0 : w1.cell? ⟨p, 0, none⟩ = some (.slice (some ⟨g, 0, none⟩) ts.length cap) := R0.out.c 0
  have t0 : w1.cell? ⟨g, k * 7, none⟩ = some (.int .i64 (t.kind : Nat)) := R0.out.toks.c HT.out 0 (by decide)
  have t1 : w1.cell? ⟨g, k * 7 + 1, none⟩ = some (.string t.text) := R0.out.toks.c HT.out 1 (by decide)
  have t2 : w1.cell? ⟨g, k * 7 + 2, none⟩ = some (.int .i64 (t.n : Nat)) := R0.out.toks.c HT.out 2 (by decide)
  have t3 : w1.cell? ⟨g, k * 7 + 3, none⟩ = some (.bool t.same) := R0.out.toks.c HT.out 3 (by decide)
  have t4 : w1.cell? ⟨g, k * 7 + 4, none⟩ = some (.int .i64 (t.pos : Nat)) := R0.out.toks.c HT.out 4 (by decide)
  have t5 : w1.cell? ⟨g, k * 7 + 5, none⟩ = some (.int .i64 (t.line : Nat)) := R0.out.toks.c HT.out 5 (by decide)
  have t6 : w1.cell? ⟨g, k * 7 + 6, none⟩ = some (.int .i64 (t.col : Nat)) := R0.out.toks.c HT.out 6 (by decide)
  have kf0 : ∀ o, w1.frozen? ⟨w.heap.size, o, none⟩ = false := fun o => by simp [World.frozen?, K0.out]
  have k0 := box_cells K0.out
  generalize ts.length = n at *
  clear HT R0
  go_wp2_with fail
  refine bodyPost_ret (v := tokV t) (by simp [results, Tryz.results104, go_sem, k0, tokV, tokCells]) rfl ⟨rfl, ?_⟩
  repeat (refine Below.setCell ?_ (by simp) _)
  exact ZB.out
/-- The token at a place, behind a fault the end. -/
def curAt (ts : List Tok) (s : RS) (k : Nat) : Tok := cur ts ⟨k, s.f, s.fp, s.fl, s.fc⟩
theorem tok_any {p g cap : Nat} {ts : List Tok} {s : RS} (k : Nat) {w : World} (h : RdAt p g cap ts s w) :
    Calls Tryz.prog 104 #[.pointer (some ⟨p, 0, none⟩), .int .i64 (k : Nat)] w fun e w' => e = .returned (tokV (curAt ts s k)) ∧ Below w.heap.size w w' := by
  unfold curAt
  by_cases hf : s.f = 0
  · cases ht : ts[k]? with
    | none => rw [cur_out (s := ⟨k, s.f, s.fp, s.fl, s.fc⟩) (List.getElem?_eq_none_iff.1 ht)]; exact tok_end h (.inr (List.getElem?_eq_none_iff.1 ht))
    | some t => rw [cur_in (s := ⟨k, s.f, s.fp, s.fl, s.fc⟩) hf ht]; exact tok_in h hf ht
  · rw [cur_f (s := ⟨k, s.f, s.fp, s.fl, s.fc⟩) hf]; exact tok_end h (.inl hf)
set_option maxHeartbeats 1000000 in
theorem next_any {p g cap : Nat} {ts : List Tok} {s : RS} {w : World} (h : RdAt p g cap ts s w) :
    Calls Tryz.prog 68 #[.pointer (some ⟨p, 0, none⟩)] w fun e w' => e = .returned (tokV (cur ts s)) ∧ Below w.heap.size w w' := by
  have Z := (Below.refl w.heap.size w).alloc (Nat.le_refl _) (.cells #[.int .i64 0, .string ⟨#[]⟩, .int .i64 0, .bool false, .int .i64 0, .int .i64 0, .int .i64 0] 50)
  have HT := Lib.hid (tok_any s.k (h.below Z))
  rw [show curAt ts s s.k = cur ts s from rfl] at HT
  have c1 : (w.alloc (.cells #[.int .i64 0, .string ⟨#[]⟩, .int .i64 0, .bool false, .int .i64 0, .int .i64 0, .int .i64 0] 50)).cell? ⟨p, 1, none⟩ = some (.int .i64 (s.k : Nat)) := (h.below Z).c 1
  have K0 := Lib.hid (heap_new w (.cells #[.int .i64 0, .string ⟨#[]⟩, .int .i64 0, .bool false, .int .i64 0, .int .i64 0, .int .i64 0] 50))
  have ZB := Lib.hid Z
  clear h Z
  generalize cur ts s = t at HT ⊢
  go_enter Tryz.func68, Tryz.ntmps68
  go_wp2_with fail
  generalize w.alloc (.cells #[.int .i64 0, .string ⟨#[]⟩, .int .i64 0, .bool false, .int .i64 0, .int .i64 0, .int .i64 0] 50) = W at HT c1 K0 ZB ⊢
  go_wp2_with fail
  refine HT.out.mono ?_
  rintro e w2 ⟨rfl, b2⟩
  have K2 := Lib.hid ((b2.block _ (heap_lt K0.out)).trans K0.out)
  have B2 := Lib.hid (ZB.out.trans (b2.mono ZB.out.size))
  have kf0 : ∀ o, w2.frozen? ⟨w.heap.size, o, none⟩ = false := fun o => by simp [World.frozen?, K2.out]
  have k0 := box_cells K2.out
  unfold tokV tokCells
  clear b2 c1
  go_wp2_with fail
  refine bodyPost_ret (v := tokV t) (by simp [results, Tryz.results68, go_sem, k0, tokV, tokCells]) rfl ⟨rfl, ?_⟩
  repeat (refine Below.setCell ?_ (by simp) _)
  exact B2.out
end Go.Proofs.YtpcldpnaljheoaaGreatDoor
end
section
namespace Go.Proofs.YtpcldpnaljheoaaGreatDoor
open Go.RowKit Go.Deep

theorem heap_setC {w : World} {b o : Nat} {c : Array Value} {t : TypeId} {f : Nat × Nat} (h : w.heap[b]? = some (.cells c t f)) (v : Value) :
    (w.setCell ⟨b, o, none⟩ v).heap[b]? = some (.cells (c.setIfInBounds o v) t f) := by
  simp [World.setCell, Array.getElem?_modify, h]
theorem RdAt.set {p g cap : Nat} {ts : List Tok} {s s' : RS} {w w' : World} (h : RdAt p g cap ts s w) (hb : w'.heap[p]? = some (.cells #[.slice (some ⟨g, 0, none⟩) ts.length cap, .int .i64 (s'.k : Nat), .int .i64 (s'.f : Nat), .int .i64 (s'.fp : Nat), .int .i64 (s'.fl : Nat), .int .i64 (s'.fc : Nat)] 119))
    (ho : Onl p w w') (hk : s'.k ≤ ts.length) : RdAt p g cap ts s' w' :=
  ⟨hb, h.toks.kept ho.size (ho.block _ h.ne h.toks.lt), h.ne, h.ok, hk⟩
theorem RdAt.setF {p g cap : Nat} {ts : List Tok} {s : RS} {w : World} (h : RdAt p g cap ts s w) (c x y z : Nat) :
    RdAt p g cap ts ⟨s.k, c, x, y, z⟩ ((((w.setCell ⟨p, 2, none⟩ (.int .i64 (c : Nat))).setCell ⟨p, 3, none⟩ (.int .i64 (x : Nat))).setCell ⟨p, 4, none⟩ (.int .i64 (y : Nat))).setCell ⟨p, 5, none⟩ (.int .i64 (z : Nat))) :=
  h.set (heap_setC (heap_setC (heap_setC (heap_setC h.blk _) _) _) _) (((((Onl.refl p w).setCell rfl _).setCell rfl _).setCell rfl _).setCell rfl _) h.kle
theorem RdAt.setK {p g cap : Nat} {ts : List Tok} {s : RS} {w : World} (h : RdAt p g cap ts s w) (hk : s.k + 1 ≤ ts.length) :
    RdAt p g cap ts (stepS s) (w.setCell ⟨p, 1, none⟩ (.int .i64 ((s.k : Int) + 1))) :=
  h.set (s' := stepS s) (by rw [show (((stepS s).k : Nat) : Int) = (s.k : Int) + 1 from Int.natCast_add s.k 1]; exact heap_setC h.blk _) ((Onl.refl p w).setCell rfl _) hk
/-- What a call that takes or tells leaves. -/
structure Did (p g cap : Nat) (ts : List Tok) (s' : RS) (w w' : World) : Prop where
  rd : RdAt p g cap ts s' w'
  onl : Onl p w w'
theorem Did.trans {p g cap : Nat} {ts : List Tok} {s s' : RS} {a b c : World} (h : Did p g cap ts s a b) (k : Did p g cap ts s' b c) : Did p g cap ts s' a c := ⟨k.rd, h.onl.trans k.onl⟩
theorem Did.of {p g cap : Nat} {ts : List Tok} {s : RS} {a b : World} (h : RdAt p g cap ts s a) (hb : Below a.heap.size a b) : Did p g cap ts s a b := ⟨h.below hb, Onl.of hb (Nat.le_refl _)⟩
theorem Did.below {p g cap : Nat} {ts : List Tok} {s : RS} {a b c : World} (h : Did p g cap ts s a b) (hb : Below b.heap.size b c) : Did p g cap ts s a c := h.trans (Did.of h.rd hb)
theorem Did.alloc {p g cap : Nat} {ts : List Tok} {s : RS} {a b : World} (h : Did p g cap ts s a b) (o : Obj) : Did p g cap ts s a (b.alloc o) := h.below ((Below.refl _ _).alloc (Nat.le_refl _) o)
theorem Did.step {p g cap : Nat} {ts : List Tok} {s : RS} {a b : World} (h : Did p g cap ts s a b) (hk : s.k + 1 ≤ ts.length) : Did p g cap ts (stepS s) a (b.setCell ⟨p, 1, none⟩ (.int .i64 ((s.k : Int) + 1))) :=
  ⟨h.rd.setK hk, h.onl.setCell rfl _⟩
theorem Did.own {p g cap : Nat} {ts : List Tok} {s : RS} {a b : World} (h : Did p g cap ts s a b) (hp : p < a.heap.size) (hg : g < a.heap.size) {q o : Nat} (hq : a.heap.size ≤ q) (v : Value) : Did p g cap ts s a (b.setCell ⟨q, o, none⟩ v) := by
  have hb : Below a.heap.size b (b.setCell ⟨q, o, none⟩ v) := (Below.refl _ _).setCell hq v
  refine ⟨⟨(hb.block _ hp).trans h.rd.blk, h.rd.toks.kept hb.size (hb.block _ hg), h.rd.ne, h.rd.ok, h.rd.kle⟩, ?_⟩
  exact ⟨hb.os.trans h.onl.os, hb.tape.trans h.onl.tape, hb.output.trans h.onl.output, Nat.le_trans h.onl.size hb.size, fun k hk hs => (hb.block k hs).trans (h.onl.block k hk hs)⟩
theorem Did.drew {p g cap : Nat} {ts : List Tok} {s : RS} {a b : World} (h : Did p g cap ts s a b) : Did p g cap ts s a b.drew := ⟨⟨h.rd.blk, ⟨h.rd.toks.lt, fun i t j v h1 h2 => h.rd.toks.cells i t j v h1 h2⟩, h.rd.ne, h.rd.ok, h.rd.kle⟩, h.onl.drew⟩
set_option maxHeartbeats 1000000 in
theorem fail_any {p g cap : Nat} {ts : List Tok} {s : RS} {w : World} (h : RdAt p g cap ts s w) (c x y z : Nat) :
    Calls Tryz.prog 105 #[.pointer (some ⟨p, 0, none⟩), .int .i64 (c : Nat), .agg #[.int .i64 (x : Nat), .int .i64 (y : Nat), .int .i64 (z : Nat)]] w fun e w' => e = .returned (.tuple #[]) ∧ Did p g cap ts (failS s c x y z) w w' := by
  have D0 := Lib.hid ((Did.of h (Below.refl _ _)).alloc (.cells #[.int .i64 (x : Nat), .int .i64 (y : Nat), .int .i64 (z : Nat)] 28))
  have K0 := Lib.hid (heap_new w (.cells #[.int .i64 (x : Nat), .int .i64 (y : Nat), .int .i64 (z : Nat)] 28))
  unfold failS
  by_cases hf : s.f = 0
  · rw [if_pos hf]
    have d : ((s.f : Int) != 0) = false := by simp [hf]
    clear h hf
    go_enter Tryz.func105, Tryz.ntmps105
    go_wp2_with fail
    refine (failed_any D0.out.rd).mono ?_
    rw [d]
    rintro e w1 ⟨rfl, rfl⟩
    have D1 := Lib.hid (show Did p g cap ts ⟨s.k, c, x, y, z⟩ w _ from ⟨D0.out.rd.setF c x y z, (((D0.out.onl.setCell (p := ⟨p, 2, none⟩) rfl (.int .i64 (c : Nat))).setCell (p := ⟨p, 3, none⟩) rfl (.int .i64 (x : Nat))).setCell (p := ⟨p, 4, none⟩) rfl (.int .i64 (y : Nat))).setCell (p := ⟨p, 5, none⟩) rfl (.int .i64 (z : Nat))⟩)
    have kf := D0.out.rd.fz
    have k0 := box_cells K0.out
    have k2 : (w.alloc (.cells #[.int .i64 (x : Nat), .int .i64 (y : Nat), .int .i64 (z : Nat)] 28)).cell? ⟨p, 2, none⟩ = some (.int .i64 (s.f : Nat)) := D0.out.rd.c 2
    have k3 : (w.alloc (.cells #[.int .i64 (x : Nat), .int .i64 (y : Nat), .int .i64 (z : Nat)] 28)).cell? ⟨p, 3, none⟩ = some (.int .i64 (s.fp : Nat)) := D0.out.rd.c 3
    have k4 : (w.alloc (.cells #[.int .i64 (x : Nat), .int .i64 (y : Nat), .int .i64 (z : Nat)] 28)).cell? ⟨p, 4, none⟩ = some (.int .i64 (s.fl : Nat)) := D0.out.rd.c 4
    have k5 : (w.alloc (.cells #[.int .i64 (x : Nat), .int .i64 (y : Nat), .int .i64 (z : Nat)] 28)).cell? ⟨p, 5, none⟩ = some (.int .i64 (s.fc : Nat)) := D0.out.rd.c 5
    generalize w.alloc (.cells #[.int .i64 (x : Nat), .int .i64 (y : Nat), .int .i64 (z : Nat)] 28) = W at *
    go_wp2_with fail
    go_end0
    exact ⟨rfl, D1.out⟩
  · rw [if_neg hf]
    have d : ((s.f : Int) != 0) = true := by simp; omega
    clear h hf
    go_enter Tryz.func105, Tryz.ntmps105
    go_wp2_with fail
    refine (failed_any D0.out.rd).mono ?_
    rw [d]
    rintro e w1 ⟨rfl, rfl⟩
    go_wp2_with fail
    go_end0
    exact ⟨rfl, D0.out⟩
end Go.Proofs.YtpcldpnaljheoaaGreatDoor
end
section
namespace Go.Proofs.YtpcldpnaljheoaaGreatDoor
open Go.RowKit Go.Deep

abbrev tokA (t : Tok) : Array Value := #[.int .i64 (t.kind : Nat), .string t.text, .int .i64 (t.n : Nat), .bool t.same, .int .i64 (t.pos : Nat), .int .i64 (t.line : Nat), .int .i64 (t.col : Nat)]
theorem tokV_eq (t : Tok) : tokV t = .agg (tokA t) := rfl
set_option maxHeartbeats 1000000 in
theorem refuse_any {p g cap : Nat} {ts : List Tok} {s : RS} {w : World} (h : RdAt p g cap ts s w) :
    Calls Tryz.prog 69 #[.pointer (some ⟨p, 0, none⟩)] w fun e w' => e = .returned (.tuple #[]) ∧ Did p g cap ts (refuseS ts s) w w' := by
  have H := Lib.hid h
  have HN := Lib.hid (next_any h)
  have HF := Lib.hid (fun (c : Nat) (W : World) (R : RdAt p g cap ts s W) => fail_any R c (cur ts s).pos (cur ts s).line (cur ts s).col)
  unfold refuseS
  generalize cur ts s = t at HF HN ⊢
  clear h
  by_cases hk : t.kind = 6
  · have d : ((t.kind : Int) == 6) = true := by simp [hk]
    rw [show codeT t = 9 from if_pos hk]
    clear hk
    go_enter Tryz.func69, Tryz.ntmps69
    go_wp2_with fail
    refine HN.out.mono ?_
    rintro e w1 ⟨rfl, b1⟩
    rw [tokV_eq]
    have D1 := Lib.hid ((Did.of H.out b1).alloc (.cells (tokA t) 50))
    have K1 := box_cells (heap_new w1 (.cells (tokA t) 50))
    go_wp2_with fail
    refine (HF.out 9 _ D1.out.rd).mono ?_
    rintro e w2 ⟨rfl, d2⟩
    have D2 := Lib.hid (D1.out.trans d2)
    clear d2
    go_wp2_with fail
    go_end0
    exact ⟨rfl, D2.out⟩
  · have d : ((t.kind : Int) == 6) = false := by simp; omega
    rw [show codeT t = 10 from if_neg hk]
    clear hk
    go_enter Tryz.func69, Tryz.ntmps69
    go_wp2_with fail
    refine HN.out.mono ?_
    rintro e w1 ⟨rfl, b1⟩
    rw [tokV_eq]
    have D1 := Lib.hid ((Did.of H.out b1).alloc (.cells (tokA t) 50))
    have K1 := box_cells (heap_new w1 (.cells (tokA t) 50))
    go_wp2_with fail
    refine (HF.out 10 _ D1.out.rd).mono ?_
    rintro e w2 ⟨rfl, d2⟩
    have D2 := Lib.hid (D1.out.trans d2)
    clear d2
    go_wp2_with fail
    go_end0
    exact ⟨rfl, D2.out⟩
set_option maxHeartbeats 1000000 in
theorem isR_any {p g cap : Nat} {ts : List Tok} {s : RS} {w : World} (h : RdAt p g cap ts s w) {a : Option Addr} {len c : Nat} {ss : List ByteArray} (hS : IsStrs w a len c ss) :
    Calls Tryz.prog 168 #[.pointer (some ⟨p, 0, none⟩), .slice a len c] w fun e w' => e = .returned (.bool (isT ts s ss)) ∧ Below w.heap.size w w' := by
  have HN := Lib.hid (next_any h)
  unfold isT isW
  generalize cur ts s = t at HN ⊢
  have HS := Lib.hid hS
  clear h hS
  by_cases h2 : t.kind = 2
  · have d : ((t.kind : Int) == 2) = true := by simp [h2]
    rw [show (t.kind == 2 || t.kind == 5) = true by simp [h2], Bool.true_and]
    clear h2
    go_enter Tryz.func168, Tryz.ntmps168
    go_wp2_with fail
    refine HN.out.mono ?_
    rintro e w1 ⟨rfl, b1⟩
    rw [tokV_eq]
    have K1 := box_cells (heap_new w1 (.cells (tokA t) 50))
    have B1 := Lib.hid (b1.alloc b1.size (.cells (tokA t) 50))
    have S1 := Lib.hid (HS.out.below B1.out)
    go_wp2_with fail
    refine (contains_any a len c ss t.text _ S1.out).mono ?_
    rintro e w2 ⟨rfl, rfl⟩
    go_wp2_with fail
    go_ret
    exact ⟨rfl, B1.out⟩
  · by_cases h5 : t.kind = 5
    · have d : ((t.kind : Int) == 2) = false := by simp; omega
      have d5 : ((t.kind : Int) == 5) = true := by simp [h5]
      rw [show (t.kind == 2 || t.kind == 5) = true by simp [h5], Bool.true_and]
      clear h2 h5
      go_enter Tryz.func168, Tryz.ntmps168
      go_wp2_with fail
      refine HN.out.mono ?_
      rintro e w1 ⟨rfl, b1⟩
      rw [tokV_eq]
      have K1 := box_cells (heap_new w1 (.cells (tokA t) 50))
      have B1 := Lib.hid (b1.alloc b1.size (.cells (tokA t) 50))
      have S1 := Lib.hid (HS.out.below B1.out)
      go_wp2_with fail
      refine (contains_any a len c ss t.text _ S1.out).mono ?_
      rintro e w2 ⟨rfl, rfl⟩
      go_wp2_with fail
      go_ret
      exact ⟨rfl, B1.out⟩
    · have d : ((t.kind : Int) == 2) = false := by simp; omega
      have d5 : ((t.kind : Int) == 5) = false := by simp; omega
      rw [show (t.kind == 2 || t.kind == 5) = false by simp [h2, h5], Bool.false_and]
      clear h2 h5
      go_enter Tryz.func168, Tryz.ntmps168
      go_wp2_with fail
      refine HN.out.mono ?_
      rintro e w1 ⟨rfl, b1⟩
      rw [tokV_eq]
      have K1 := box_cells (heap_new w1 (.cells (tokA t) 50))
      have B1 := Lib.hid (b1.alloc b1.size (.cells (tokA t) 50))
      go_wp2_with fail
      go_ret
      exact ⟨rfl, B1.out⟩
theorem field_text (t : Tok) (w : World) : (Instr.field 50 (.agg (tokA t)) 1).run Tryz.prog w = .ok (.string t.text) w := by kernel_rfl
set_option maxHeartbeats 1000000 in
theorem takeR_any {p g cap : Nat} {ts : List Tok} {s : RS} {w : World} (h : RdAt p g cap ts s w) {a : Option Addr} {len c : Nat} {ss : List ByteArray} (hS : IsStrs w a len c ss) :
    Calls Tryz.prog 134 #[.pointer (some ⟨p, 0, none⟩), .slice a len c] w fun e w' => e = .returned (.string (takeT ts s ss).1) ∧ Did p g cap ts (takeT ts s ss).2 w w' := by
  have HI := Lib.hid (isR_any h hS)
  have H := Lib.hid h
  unfold takeT
  cases hi : isT ts s ss with
  | false =>
    rw [hi] at HI
    rw [if_neg (by decide)]
    clear h hS hi
    go_enter Tryz.func134, Tryz.ntmps134
    go_wp2_with fail
    refine HI.out.mono ?_
    rintro e w1 ⟨rfl, b1⟩
    have D1 := Lib.hid (Did.of H.out b1)
    go_wp2_with fail
    go_ret
    exact ⟨rfl, D1.out⟩
  | true =>
    rw [hi] at HI
    rw [if_pos rfl]
    have hk := isT_k hi
    have hlen := h.ok.len
    have hN := Lib.hid (fun (W : World) (R : RdAt p g cap ts s W) => next_any R)
    generalize cur ts s = t at hN ⊢
    have hw : IntKind.i64.wrap ((s.k : Int) + 1) = (s.k : Int) + 1 := IntWalk.i64_in _ (by omega)
    have hk1 : s.k + 1 ≤ ts.length := by omega
    clear h hS hi hk
    go_enter Tryz.func134, Tryz.ntmps134
    go_wp2_with fail
    refine HI.out.mono ?_
    rintro e w1 ⟨rfl, b1⟩
    have D1 := Lib.hid (Did.of H.out b1)
    go_wp2_with fail
    refine (hN.out _ D1.out.rd).mono ?_
    rintro e w2 ⟨rfl, b2⟩
    rw [tokV_eq]
    have D2 := Lib.hid (D1.out.below b2)
    have D3 := Lib.hid (D2.out.step hk1)
    have kf := D2.out.rd.fz 1
    have k1 : w2.cell? ⟨p, 1, none⟩ = some (.int .i64 (s.k : Nat)) := D2.out.rd.c 1
    have hf := field_text t
    go_wp2_with fail
    go_ret
    exact ⟨rfl, D3.out⟩
end Go.Proofs.YtpcldpnaljheoaaGreatDoor
end
section
namespace Go.Proofs.YtpcldpnaljheoaaGreatDoor
open Go.RowKit Go.Deep Go.Maps

def okName (d : Int) (s : ByteArray) : Bool := decide (chk s = 0) && !isIn s (wordsOf d)
set_option maxRecDepth 100000 in
set_option maxHeartbeats 1000000 in
theorem cname_any (d ar : Int) (s : ByteArray) (w : World) (hs : s.size ≤ maxLen) : Calls Tryz.prog 176 #[.agg #[.int .i64 d, .int .i64 ar], .string s] w fun e w' => e = .returned (.bool (okName d s)) ∧ Below w.heap.size w w' := by
  have HC := Lib.hid (check_any s (w.alloc (.cells #[.int .i64 d, .int .i64 ar] 140)) hs)
  by_cases h0 : chk s = 0
  · have HO := Lib.hid (show okName d s = !isIn s (wordsOf d) by unfold okName; rw [h0]; simp)
    go_enter Tryz.func176, Tryz.ntmps176
    go_wp2_with fail
    refine HC.out.mono ?_
    rw [h0]
    rintro e w' ⟨rfl, rfl⟩
    go_wp2_with fail
    refine (is_any d s _).mono ?_
    rintro e w1 ⟨rfl, b1⟩
    have B1 := Lib.hid (((Below.refl w.heap.size w).alloc (Nat.le_refl _) (.cells #[.int .i64 d, .int .i64 ar] 140)).trans (b1.mono (by simp)))
    clear b1
    generalize hr : isIn s (wordsOf d) = r
    rw [hr] at HO
    go_wp2_with fail
    go_ret
    exact ⟨by rw [HO.out]; rfl, B1.out⟩
  · have HO := Lib.hid (show okName d s = false by unfold okName; simp [h0])
    have h1 : (((chk s : Nat) : Int) == 0) = false := by simpa using h0
    go_enter Tryz.func176, Tryz.ntmps176
    go_wp2_with fail
    refine HC.out.mono ?_
    rintro e w' ⟨rfl, rfl⟩
    go_wp2_with fail
    go_ret
    exact ⟨by rw [HO.out]; rfl, (Below.refl w.heap.size w).alloc (Nat.le_refl _) _⟩
theorem told_yes (w : World) : Calls Tryz.prog 89 #[.bool true] w fun e w' => e = .returned (.int .i64 0) ∧ w = w' := by
  go_enter Tryz.func89, Tryz.ntmps89
  go_wp2_with fail
  go_ret
  exact ⟨rfl, rfl⟩
theorem told_no (w : World) : Calls Tryz.prog 89 #[.bool false] w fun e w' => e = .returned (.int .i64 1) ∧ w = w' := by
  go_enter Tryz.func89, Tryz.ntmps89
  go_wp2_with fail
  go_ret
  exact ⟨rfl, rfl⟩
def knows (d : Int) : Bool := d == 0 || d == 1
theorem knows_any (d ar : Int) (w : World) : Calls Tryz.prog 90 #[.agg #[.int .i64 d, .int .i64 ar]] w fun e w' => e = .returned (.bool (knows d)) ∧ w' = w.alloc (.cells #[.int .i64 d, .int .i64 ar] 140) := by
  unfold knows
  cases h0 : d == 0 with
  | true =>
    go_enter Tryz.func90, Tryz.ntmps90
    go_wp2_with fail
    go_ret
    exact ⟨rfl, rfl⟩
  | false =>
    cases h1 : d == 1 <;>
    · go_enter Tryz.func90, Tryz.ntmps90
      go_wp2_with fail
      go_ret
      exact ⟨rfl, rfl⟩
end Go.Proofs.YtpcldpnaljheoaaGreatDoor
end
section
namespace Go.Proofs.YtpcldpnaljheoaaGreatDoor
open Go.RowKit Go.Deep
/-- A function that says of the elements of a row whether they are right. -/
def OkFn (w0 : World) (g : Nat) (c : Value) (l : List (List D)) (f : List D → Bool) : Prop := ∀ x ∈ l, ∀ vs, AllAt w0 vs x → ∀ W, Below w0.heap.size w0 W → Calls Tryz.prog g #[c, .agg ⟨vs⟩] W fun e W' => e = .returned (.bool (f x)) ∧ Below W.heap.size W W'
def okAll (l : List (List D)) (f : List D → Bool) : Bool := decide (l.length ≤ 512) && l.all f
theorem okAll_long {l : List (List D)} {f : List D → Bool} (h : 512 < l.length) : okAll l f = false := by
  unfold okAll
  rw [decide_eq_false (by omega)]
  rfl
theorem okAll_bad {l : List (List D)} {f : List D → Bool} {k : Nat} {x : List D} (hx : l[k]? = some x) (h : f x = false) : okAll l f = false := by
  unfold okAll
  have : l.all f = false := by
    rw [List.all_eq_false]
    exact ⟨x, List.mem_of_getElem? hx, by simp [h]⟩
  rw [this, Bool.and_false]
theorem okAll_good {l : List (List D)} {f : List D → Bool} (hl : l.length ≤ 512) (h : (l.take l.length).all f = true) : okAll l f = true := by
  rw [List.take_length] at h
  unfold okAll
  rw [h, decide_eq_true hl]
  rfl
theorem all_take_succ {l : List (List D)} {f : List D → Bool} {k : Nat} {x : List D} (hx : l[k]? = some x) (h : (l.take k).all f = true) (hf : f x = true) : (l.take (k + 1)).all f = true := by
  rw [List.take_add_one, hx, List.all_append, h]
  simpa using hf
end Go.Proofs.YtpcldpnaljheoaaGreatDoor
end
section
namespace Go.Proofs.YtpcldpnaljheoaaGreatDoor
open Go.RowKit Go.Deep Go.Maps

def wthn (n a b : Int) : Bool := decide (a ≤ n) && decide (n ≤ b)
theorem within_any (n a b : Int) (w : World) : Calls Tryz.prog 175 #[.int .i64 n, .int .i64 a, .int .i64 b] w fun e w' => e = .returned (.bool (wthn n a b)) ∧ w = w' := by
  unfold wthn
  cases h0 : decide (a ≤ n) <;> cases h1 : decide (n ≤ b) <;>
  · go_enter Tryz.func175, Tryz.ntmps175
    go_wp2_with fail
    go_ret
    exact ⟨rfl, rfl⟩
theorem tooDeep_any (d ar : Int) (w : World) : Calls Tryz.prog 139 #[.agg #[.int .i64 d, .int .i64 ar]] w fun e w' => e = .returned (.bool (decide ((48 : Int) ≤ ar))) ∧ w' = w.alloc (.cells #[.int .i64 d, .int .i64 ar] 140) := by
  cases h0 : decide ((48 : Int) ≤ ar) <;>
  · go_enter Tryz.func139, Tryz.ntmps139
    go_wp2_with fail
    go_ret
    exact ⟨rfl, rfl⟩
theorem deeper_any (d : Int) (ar : Nat) (w : World) (har : ar < 100000) : Calls Tryz.prog 144 #[.agg #[.int .i64 d, .int .i64 ar]] w fun e w' => e = .returned (.agg #[.int .i64 d, .int .i64 ((ar + 1 : Nat) : Int)]) ∧ Below w.heap.size w w' := by
  have R1 := Lib.hid (((Below.refl w.heap.size w).alloc (Nat.le_refl _) (.cells #[.int .i64 d, .int .i64 ar] 140)).alloc (by simp) (.cells #[.int .i64 d, .int .i64 ((ar + 1 : Nat) : Int)] 140))
  go_enter Tryz.func144, Tryz.ntmps144
  go_wp2_with fail
  refine bodyPost_ret (v := .agg ⟨[.int .i64 d, .int .i64 ((ar : Int) + 1)]⟩) ?_ rfl ?_
  · exact results_cell (i := 2) (b := w.heap.size + 1) Tryz.results144 Tryz.isAgg140 Tryz.sizeOf140 rfl rfl (by simpa using heap_new (w.alloc (.cells #[.int .i64 d, .int .i64 ar] 140)) (.cells #[.int .i64 d, .int .i64 ((ar : Int) + 1)] 140))
  · exact ⟨rfl, R1.out⟩
def nameW (d : Int) (k : Bool) (s : ByteArray) : Bool := if k then okName d s else s.toList.isEmpty
set_option maxRecDepth 100000 in
set_option maxHeartbeats 1000000 in
theorem nameWhere_any (d ar : Int) (k : Bool) (s : ByteArray) (w : World) (hs : s.size ≤ maxLen) : Calls Tryz.prog 142 #[.agg #[.int .i64 d, .int .i64 ar], .bool k, .string s] w fun e w' => e = .returned (.bool (nameW d k s)) ∧ Below w.heap.size w w' := by
  have R1 := Lib.hid ((Below.refl w.heap.size w).alloc (Nat.le_refl _) (.cells #[.int .i64 d, .int .i64 ar] 140))
  cases k with
  | true =>
    rw [show nameW d true s = okName d s from rfl]
    go_enter Tryz.func142, Tryz.ntmps142
    go_wp2_with fail
    refine (cname_any d ar s _ hs).mono ?_
    rintro e w1 ⟨rfl, b1⟩
    have B1 := Lib.hid (R1.out.trans (b1.mono (by simp)))
    clear b1
    generalize hr : okName d s = r
    go_wp2_with fail
    go_ret
    exact ⟨by rw [hr]; rfl, B1.out⟩
  | false =>
    rw [show nameW d false s = s.toList.isEmpty from rfl]
    go_enter Tryz.func142, Tryz.ntmps142
    go_wp2_with fail
    go_ret
    exact ⟨rfl, R1.out⟩
theorem results_cell2 {fn : Func} {tmps : Array Value} {w : World} {i j : Nat} {T : TypeId} {k : Nat} (hres : fn.results = #[.cell i T, .tmp j]) (hag : ∀ w, (isAgg T).run Tryz.prog w = .ok true w) (hsz : ∀ w, (sizeOf T).run Tryz.prog w = .ok k w) {b : Nat} (ht : tmps.getD i undef = .pointer (some ⟨b, 0, none⟩)) {vs : List Value} {T' : TypeId} {fz : Nat × Nat} (hlen : vs.length = k) (hb : w.heap[b]? = some (.cells ⟨vs⟩ T' fz)) {u : Value} (hu : tmps.getD j undef = u) :
    (results fn tmps).run Tryz.prog w = .ok (.tuple #[.agg ⟨vs⟩, u]) w := by
  have h := run_loadCells_list (P := Tryz.prog) (w := w) ⟨b, 0, none⟩ vs (fun j v hv => by
    rw [add_mid2, Nat.zero_add, box_cells hb]
    simpa using hv)
  rw [hlen] at h
  rw [Array.getD_eq_getD_getElem?] at ht hu
  unfold results
  simp [hres, ht, hu, loadVar, asAddr, hag, hsz, h, Sem.run_bind]
def fmost (op : Int) : Int := if op = 1 then 9223372036854775807 else if op = 2 then 1 else if op = 3 then 255 else 0
def fname (op : Int) : Bool := decide (op = 4 ∨ op = 5 ∨ op = 6)
def ffield (op : Int) : Bool := decide (op = 6)
def fops (op : Int) : Int := if op = 1 ∨ op = 2 ∨ op = 3 ∨ op = 4 ∨ op = 6 then 0 else if op = 5 ∨ op = 8 ∨ op = 9 then 1 else 2
def fok (op : Int) : Bool := decide (op = 1 ∨ op = 2 ∨ op = 3 ∨ op = 4 ∨ op = 5 ∨ op = 6 ∨ op = 8 ∨ op = 9) || wthn op 10 24
def FormPost (op : Int) (w : World) (e : Ending) (w' : World) : Prop := e = .returned (.tuple #[.agg #[.int .i64 (fmost op), .bool (fname op), .bool (ffield op), .int .i64 (fops op)], .bool (fok op)]) ∧ Below w.heap.size w w'
set_option maxRecDepth 100000 in
theorem exprForm_1 (w : World) : Calls Tryz.prog 141 #[.int .i64 1] w (FormPost 1 w) := by
  have R1 := Lib.hid ((Below.refl w.heap.size w).alloc (Nat.le_refl _) (.cells #[.int .i64 (fmost 1), .bool (fname 1), .bool (ffield 1), .int .i64 (fops 1)] 188))
  go_enter Tryz.func141, Tryz.ntmps141
  go_wp2_with fail
  refine bodyPost_ret (v := .tuple #[.agg ⟨[.int .i64 (fmost 1), .bool (fname 1), .bool (ffield 1), .int .i64 (fops 1)]⟩, .bool true]) ?_ rfl ?_
  · exact results_cell2 (i := 2) (j := 3) (b := w.heap.size) Tryz.results141 Tryz.isAgg188 Tryz.sizeOf188 rfl rfl (heap_new w (.cells #[.int .i64 (fmost 1), .bool (fname 1), .bool (ffield 1), .int .i64 (fops 1)] 188)) rfl
  · exact ⟨rfl, R1.out⟩
set_option maxRecDepth 100000 in
theorem exprForm_2 (w : World) : Calls Tryz.prog 141 #[.int .i64 2] w (FormPost 2 w) := by
  have R1 := Lib.hid ((Below.refl w.heap.size w).alloc (Nat.le_refl _) (.cells #[.int .i64 (fmost 2), .bool (fname 2), .bool (ffield 2), .int .i64 (fops 2)] 188))
  go_enter Tryz.func141, Tryz.ntmps141
  go_wp2_with fail
  refine bodyPost_ret (v := .tuple #[.agg ⟨[.int .i64 (fmost 2), .bool (fname 2), .bool (ffield 2), .int .i64 (fops 2)]⟩, .bool true]) ?_ rfl ?_
  · exact results_cell2 (i := 2) (j := 3) (b := w.heap.size) Tryz.results141 Tryz.isAgg188 Tryz.sizeOf188 rfl rfl (heap_new w (.cells #[.int .i64 (fmost 2), .bool (fname 2), .bool (ffield 2), .int .i64 (fops 2)] 188)) rfl
  · exact ⟨rfl, R1.out⟩
set_option maxRecDepth 100000 in
theorem exprForm_3 (w : World) : Calls Tryz.prog 141 #[.int .i64 3] w (FormPost 3 w) := by
  have R1 := Lib.hid ((Below.refl w.heap.size w).alloc (Nat.le_refl _) (.cells #[.int .i64 (fmost 3), .bool (fname 3), .bool (ffield 3), .int .i64 (fops 3)] 188))
  go_enter Tryz.func141, Tryz.ntmps141
  go_wp2_with fail
  refine bodyPost_ret (v := .tuple #[.agg ⟨[.int .i64 (fmost 3), .bool (fname 3), .bool (ffield 3), .int .i64 (fops 3)]⟩, .bool true]) ?_ rfl ?_
  · exact results_cell2 (i := 2) (j := 3) (b := w.heap.size) Tryz.results141 Tryz.isAgg188 Tryz.sizeOf188 rfl rfl (heap_new w (.cells #[.int .i64 (fmost 3), .bool (fname 3), .bool (ffield 3), .int .i64 (fops 3)] 188)) rfl
  · exact ⟨rfl, R1.out⟩
set_option maxRecDepth 100000 in
theorem exprForm_4 (w : World) : Calls Tryz.prog 141 #[.int .i64 4] w (FormPost 4 w) := by
  have R1 := Lib.hid ((Below.refl w.heap.size w).alloc (Nat.le_refl _) (.cells #[.int .i64 (fmost 4), .bool (fname 4), .bool (ffield 4), .int .i64 (fops 4)] 188))
  go_enter Tryz.func141, Tryz.ntmps141
  go_wp2_with fail
  refine bodyPost_ret (v := .tuple #[.agg ⟨[.int .i64 (fmost 4), .bool (fname 4), .bool (ffield 4), .int .i64 (fops 4)]⟩, .bool true]) ?_ rfl ?_
  · exact results_cell2 (i := 2) (j := 3) (b := w.heap.size) Tryz.results141 Tryz.isAgg188 Tryz.sizeOf188 rfl rfl (heap_new w (.cells #[.int .i64 (fmost 4), .bool (fname 4), .bool (ffield 4), .int .i64 (fops 4)] 188)) rfl
  · exact ⟨rfl, R1.out⟩
set_option maxRecDepth 100000 in
theorem exprForm_5 (w : World) : Calls Tryz.prog 141 #[.int .i64 5] w (FormPost 5 w) := by
  have R1 := Lib.hid ((Below.refl w.heap.size w).alloc (Nat.le_refl _) (.cells #[.int .i64 (fmost 5), .bool (fname 5), .bool (ffield 5), .int .i64 (fops 5)] 188))
  go_enter Tryz.func141, Tryz.ntmps141
  go_wp2_with fail
  refine bodyPost_ret (v := .tuple #[.agg ⟨[.int .i64 (fmost 5), .bool (fname 5), .bool (ffield 5), .int .i64 (fops 5)]⟩, .bool true]) ?_ rfl ?_
  · exact results_cell2 (i := 2) (j := 3) (b := w.heap.size) Tryz.results141 Tryz.isAgg188 Tryz.sizeOf188 rfl rfl (heap_new w (.cells #[.int .i64 (fmost 5), .bool (fname 5), .bool (ffield 5), .int .i64 (fops 5)] 188)) rfl
  · exact ⟨rfl, R1.out⟩
set_option maxRecDepth 100000 in
theorem exprForm_6 (w : World) : Calls Tryz.prog 141 #[.int .i64 6] w (FormPost 6 w) := by
  have R1 := Lib.hid ((Below.refl w.heap.size w).alloc (Nat.le_refl _) (.cells #[.int .i64 (fmost 6), .bool (fname 6), .bool (ffield 6), .int .i64 (fops 6)] 188))
  go_enter Tryz.func141, Tryz.ntmps141
  go_wp2_with fail
  refine bodyPost_ret (v := .tuple #[.agg ⟨[.int .i64 (fmost 6), .bool (fname 6), .bool (ffield 6), .int .i64 (fops 6)]⟩, .bool true]) ?_ rfl ?_
  · exact results_cell2 (i := 2) (j := 3) (b := w.heap.size) Tryz.results141 Tryz.isAgg188 Tryz.sizeOf188 rfl rfl (heap_new w (.cells #[.int .i64 (fmost 6), .bool (fname 6), .bool (ffield 6), .int .i64 (fops 6)] 188)) rfl
  · exact ⟨rfl, R1.out⟩
set_option maxRecDepth 100000 in
theorem exprForm_8 (w : World) : Calls Tryz.prog 141 #[.int .i64 8] w (FormPost 8 w) := by
  have R1 := Lib.hid ((Below.refl w.heap.size w).alloc (Nat.le_refl _) (.cells #[.int .i64 (fmost 8), .bool (fname 8), .bool (ffield 8), .int .i64 (fops 8)] 188))
  go_enter Tryz.func141, Tryz.ntmps141
  go_wp2_with fail
  refine bodyPost_ret (v := .tuple #[.agg ⟨[.int .i64 (fmost 8), .bool (fname 8), .bool (ffield 8), .int .i64 (fops 8)]⟩, .bool true]) ?_ rfl ?_
  · exact results_cell2 (i := 2) (j := 3) (b := w.heap.size) Tryz.results141 Tryz.isAgg188 Tryz.sizeOf188 rfl rfl (heap_new w (.cells #[.int .i64 (fmost 8), .bool (fname 8), .bool (ffield 8), .int .i64 (fops 8)] 188)) rfl
  · exact ⟨rfl, R1.out⟩
set_option maxRecDepth 100000 in
theorem exprForm_9 (w : World) : Calls Tryz.prog 141 #[.int .i64 9] w (FormPost 9 w) := by
  have R1 := Lib.hid ((Below.refl w.heap.size w).alloc (Nat.le_refl _) (.cells #[.int .i64 (fmost 9), .bool (fname 9), .bool (ffield 9), .int .i64 (fops 9)] 188))
  go_enter Tryz.func141, Tryz.ntmps141
  go_wp2_with fail
  refine bodyPost_ret (v := .tuple #[.agg ⟨[.int .i64 (fmost 9), .bool (fname 9), .bool (ffield 9), .int .i64 (fops 9)]⟩, .bool true]) ?_ rfl ?_
  · exact results_cell2 (i := 2) (j := 3) (b := w.heap.size) Tryz.results141 Tryz.isAgg188 Tryz.sizeOf188 rfl rfl (heap_new w (.cells #[.int .i64 (fmost 9), .bool (fname 9), .bool (ffield 9), .int .i64 (fops 9)] 188)) rfl
  · exact ⟨rfl, R1.out⟩
set_option maxRecDepth 100000 in
set_option maxHeartbeats 1000000 in
theorem exprForm_no (op : Int) (w : World) (h1 : op ≠ 1) (h2 : op ≠ 2) (h3 : op ≠ 3) (h4 : op ≠ 4) (h5 : op ≠ 5) (h6 : op ≠ 6) (h8 : op ≠ 8) (h9 : op ≠ 9) : Calls Tryz.prog 141 #[.int .i64 op] w (FormPost op w) := by
  have HF := Lib.hid (show FormPost op w = fun e w' => e = .returned (.tuple #[.agg #[.int .i64 0, .bool false, .bool false, .int .i64 2], .bool (wthn op 10 24)]) ∧ Below w.heap.size w w' by
    unfold FormPost fmost fname ffield fops fok
    simp [h1, h2, h3, h4, h5, h6, h8, h9])
  have b1 : (op == 1) = false := by simpa using h1
  have b2 : (op == 2) = false := by simpa using h2
  have b3 : (op == 3) = false := by simpa using h3
  have b4 : (op == 4) = false := by simpa using h4
  have b5 : (op == 5) = false := by simpa using h5
  have b6 : (op == 6) = false := by simpa using h6
  have b8 : (op == 8) = false := by simpa using h8
  have b9 : (op == 9) = false := by simpa using h9
  clear h1 h2 h3 h4 h5 h6 h8 h9
  have R1 := Lib.hid ((Below.refl w.heap.size w).alloc (Nat.le_refl _) (.cells #[.int .i64 0, .bool false, .bool false, .int .i64 2] 188))
  rw [HF.out]
  go_enter Tryz.func141, Tryz.ntmps141
  go_wp2_with fail
  refine (within_any op 10 24 _).mono ?_
  rintro e w1 ⟨rfl, rfl⟩
  generalize hr : wthn op 10 24 = r
  go_wp2_with fail
  refine bodyPost_ret (v := .tuple #[.agg ⟨[.int .i64 0, .bool false, .bool false, .int .i64 2]⟩, .bool r]) ?_ rfl ?_
  · exact results_cell2 (i := 2) (j := 3) (b := w.heap.size) Tryz.results141 Tryz.isAgg188 Tryz.sizeOf188 rfl rfl (heap_new w (.cells #[.int .i64 0, .bool false, .bool false, .int .i64 2] 188)) rfl
  · exact ⟨by rw [hr], R1.out⟩
theorem exprForm_any (op : Int) (w : World) : Calls Tryz.prog 141 #[.int .i64 op] w (FormPost op w) := by
  by_cases h1 : op = 1
  · rw [h1]; exact exprForm_1 w
  by_cases h2 : op = 2
  · rw [h2]; exact exprForm_2 w
  by_cases h3 : op = 3
  · rw [h3]; exact exprForm_3 w
  by_cases h4 : op = 4
  · rw [h4]; exact exprForm_4 w
  by_cases h5 : op = 5
  · rw [h5]; exact exprForm_5 w
  by_cases h6 : op = 6
  · rw [h6]; exact exprForm_6 w
  by_cases h8 : op = 8
  · rw [h8]; exact exprForm_8 w
  by_cases h9 : op = 9
  · rw [h9]; exact exprForm_9 w
  exact exprForm_no op w h1 h2 h3 h4 h5 h6 h8 h9
end Go.Proofs.YtpcldpnaljheoaaGreatDoor
end
section
namespace Go.Proofs.YtpcldpnaljheoaaGreatDoor
open Go.RowKit Go.Deep

theorem takeT_text {ts : List Tok} {s : RS} {l : List ByteArray} (hl : ⟨#[]⟩ ∉ l) : ((takeT ts s l).1 = ⟨#[]⟩ ↔ isT ts s l = false) := by
  unfold takeT
  cases h : isT ts s l with
  | false => simp
  | true =>
    simp only [if_true, Bool.true_eq_false, iff_false]
    intro e
    unfold isT isW at h
    rw [e, Bool.and_eq_true] at h
    exact hl ((isIn_iff _ _).1 h.2)
theorem takeT_no {ts : List Tok} {s : RS} {l : List ByteArray} (h : isT ts s l = false) : takeT ts s l = (⟨#[]⟩, s) := by unfold takeT; rw [h]; rfl
theorem takeT_yes {ts : List Tok} {s : RS} {l : List ByteArray} (h : isT ts s l = true) : takeT ts s l = ((cur ts s).text, stepS s) := by unfold takeT; rw [h]; rfl
theorem text_ne {ts : List Tok} {s : RS} {l : List ByteArray} (hl : ⟨#[]⟩ ∉ l) (h : isT ts s l = true) : (cur ts s).text.toList.isEmpty = false := by
  have h1 : (takeT ts s l).1 ≠ ⟨#[]⟩ := fun e => by rw [(takeT_text hl).1 e] at h; cases h
  rw [takeT_yes h] at h1
  cases hx : (cur ts s).text.toList.isEmpty with
  | false => rfl
  | true =>
    have h2 := List.isEmpty_iff.1 hx
    rw [ByteArray.toList_eq] at h2
    exact absurd (ByteArray.ext (Array.ext' h2)) h1
set_option maxHeartbeats 1000000 in
theorem needR_any {p g cap : Nat} {ts : List Tok} {s : RS} {w : World} (h : RdAt p g cap ts s w) {a : Option Addr} {len c : Nat} {ss : List ByteArray} (hS : IsStrs w a len c ss) (hl : ⟨#[]⟩ ∉ ss) :
    Calls Tryz.prog 193 #[.pointer (some ⟨p, 0, none⟩), .slice a len c] w fun e w' => (∃ v, e = .returned (.string v)) ∧ Did p g cap ts (needT ts s ss) w w' := by
  have HT := Lib.hid (takeR_any h hS)
  unfold needT
  cases hi : isT ts s ss with
  | false =>
    rw [takeT_no hi] at HT
    rw [if_neg (by decide)]
    clear h hS hi
    go_enter Tryz.func193, Tryz.ntmps193
    go_wp2_with fail
    refine HT.out.mono ?_
    rintro e w1 ⟨rfl, d1⟩
    have D1 := Lib.hid d1
    clear d1
    go_wp2_with fail
    refine (refuse_any D1.out.rd).mono ?_
    rintro e w2 ⟨rfl, d2⟩
    have D2 := Lib.hid (D1.out.trans d2)
    clear d2
    go_wp2_with fail
    go_ret
    exact ⟨⟨_, rfl⟩, D2.out⟩
  | true =>
    have hne := text_ne hl hi
    rw [takeT_yes hi] at HT
    rw [if_pos rfl]
    clear h hS hi
    generalize cur ts s = t at HT hne
    go_enter Tryz.func193, Tryz.ntmps193
    go_wp2_with fail
    refine HT.out.mono ?_
    rintro e w1 ⟨rfl, d1⟩
    have D1 := Lib.hid d1
    clear d1
    go_wp2_with fail
    go_ret
    exact ⟨⟨_, rfl⟩, D1.out⟩
def takeK (ts : List Tok) (s : RS) (k : Nat) : RS := if (cur ts s).kind = k then stepS s else s
def tokK (ts : List Tok) (s : RS) (k : Nat) : Tok := if (cur ts s).kind = k then cur ts s else ⟨0, ⟨#[]⟩, 0, false, 0, 0, 0⟩
set_option maxHeartbeats 1000000 in
theorem takeK_any {p g cap : Nat} {ts : List Tok} {s : RS} {w : World} (h : RdAt p g cap ts s w) (k : Nat) (hk0 : k ≠ 0) :
    Calls Tryz.prog 209 #[.pointer (some ⟨p, 0, none⟩), .int .i64 (k : Nat)] w fun e w' => e = .returned (.tuple #[tokV (tokK ts s k), .bool (decide ((cur ts s).kind = k))]) ∧ Did p g cap ts (takeK ts s k) w w' := by
  have Z := (Below.refl w.heap.size w).alloc (Nat.le_refl _) (.cells #[.int .i64 0, .string ⟨#[]⟩, .int .i64 0, .bool false, .int .i64 0, .int .i64 0, .int .i64 0] 50)
  have D0 := Lib.hid (Did.of h Z)
  have K0 := Lib.hid (heap_new w (.cells #[.int .i64 0, .string ⟨#[]⟩, .int .i64 0, .bool false, .int .i64 0, .int .i64 0, .int .i64 0] 50))
  have HN := Lib.hid (next_any D0.out.rd)
  have hlen := h.ok.len
  unfold tokK takeK
  have hc : (cur ts s).kind = k → s.k + 1 ≤ ts.length := fun e => by have := cur_k (ts := ts) (s := s) (by omega); omega
  generalize cur ts s = t at HN hc ⊢
  have hpl := h.lt
  have hgl := h.toks.lt
  clear h Z
  by_cases hk : t.kind = k
  · have hk1 := hc hk
    have d : ((t.kind : Int) != (k : Int)) = false := by simp [hk]
    rw [if_pos hk, if_pos hk, show decide (t.kind = k) = true by simpa using hk]
    have hw : IntKind.i64.wrap ((s.k : Int) + 1) = (s.k : Int) + 1 := IntWalk.i64_in _ (by omega)
    clear hc hk
    go_enter Tryz.func209, Tryz.ntmps209
    go_wp2_with fail
    generalize w.alloc (.cells #[.int .i64 0, .string ⟨#[]⟩, .int .i64 0, .bool false, .int .i64 0, .int .i64 0, .int .i64 0] 50) = W at D0 K0 HN ⊢
    refine HN.out.mono ?_
    rintro e w1 ⟨rfl, b1⟩
    rw [tokV_eq]
    have hz1 := b1.size
    have hzW := heap_lt K0.out
    have D1 := Lib.hid (D0.out.below b1)
    have K2 := Lib.hid ((b1.block _ hzW).trans K0.out)
    have D2 := Lib.hid (((((((((D1.out.step hk1).own hpl hgl (Nat.le_refl _) (o := 0) (.int .i64 (t.kind : Nat))).own hpl hgl (Nat.le_refl _) (o := 1) (.string t.text)).own hpl hgl (Nat.le_refl _) (o := 2) (.int .i64 (t.n : Nat))).own hpl hgl (Nat.le_refl _) (o := 3) (.bool t.same)).own hpl hgl (Nat.le_refl _) (o := 4) (.int .i64 (t.pos : Nat))).own hpl hgl (Nat.le_refl _) (o := 5) (.int .i64 (t.line : Nat))).own hpl hgl (Nat.le_refl _) (o := 6) (.int .i64 (t.col : Nat))).alloc (.cells (tokA t) 50))
    have hn2 : w.heap.size ≠ p := by omega
    have KS := (heap_setC (o := 6) (heap_setC (o := 5) (heap_setC (o := 4) (heap_setC (o := 3) (heap_setC (o := 2) (heap_setC (o := 1) (heap_setC (o := 0) ((Below.heap_setCell w1 ⟨p, 1, none⟩ (.int .i64 ((s.k : Int) + 1)) _ hn2).trans K2.out) (.int .i64 (t.kind : Nat))) (.string t.text)) (.int .i64 (t.n : Nat))) (.bool t.same)) (.int .i64 (t.pos : Nat))) (.int .i64 (t.line : Nat))) (.int .i64 (t.col : Nat)))
    have KF := Lib.hid ((((Below.refl _ _).alloc (Nat.le_refl _) (.cells (tokA t) 50)).block _ (heap_lt KS)).trans KS)
    clear KS hn2
    have k2 := box_cells K2.out
    have kf := D1.out.rd.fz 1
    have kf0 : ∀ o, w1.frozen? ⟨w.heap.size, o, none⟩ = false := fun o => by simp [World.frozen?, K2.out]
    have c1 : w1.cell? ⟨p, 1, none⟩ = some (.int .i64 (s.k : Nat)) := D1.out.rd.c 1
    have l1 : p < w1.heap.size := D1.out.rd.lt
    have l2 : w.heap.size < w1.heap.size := by omega
    have n1 : p ≠ w.heap.size := by omega
    clear b1
    go_wp2_with fail
    exact bodyPost_ret (v := .tuple #[tokV t, .bool true]) (results_cell2 (i := 4) (j := 5) (b := w.heap.size) Tryz.results209 Tryz.isAgg50 Tryz.sizeOf50 rfl rfl KF.out rfl) rfl ⟨rfl, D2.out⟩
  · have d : ((t.kind : Int) != (k : Int)) = true := by simp; omega
    rw [if_neg hk, if_neg hk, show decide (t.kind = k) = false by simpa using hk]
    clear hc hk
    go_enter Tryz.func209, Tryz.ntmps209
    go_wp2_with fail
    generalize w.alloc (.cells #[.int .i64 0, .string ⟨#[]⟩, .int .i64 0, .bool false, .int .i64 0, .int .i64 0, .int .i64 0] 50) = W at D0 K0 HN ⊢
    refine HN.out.mono ?_
    rintro e w1 ⟨rfl, b1⟩
    rw [tokV_eq]
    have hz1 := b1.size
    have hzW := heap_lt K0.out
    have D1 := Lib.hid (D0.out.below b1)
    have K2 := Lib.hid ((b1.block _ hzW).trans K0.out)
    have D2 := Lib.hid ((((((((D1.out.own hpl hgl (Nat.le_refl _) (o := 0) (.int .i64 0)).own hpl hgl (Nat.le_refl _) (o := 1) (.string ⟨#[]⟩)).own hpl hgl (Nat.le_refl _) (o := 2) (.int .i64 0)).own hpl hgl (Nat.le_refl _) (o := 3) (.bool false)).own hpl hgl (Nat.le_refl _) (o := 4) (.int .i64 0)).own hpl hgl (Nat.le_refl _) (o := 5) (.int .i64 0)).own hpl hgl (Nat.le_refl _) (o := 6) (.int .i64 0)).alloc (.cells (tokA t) 50))
    have KS := (heap_setC (o := 6) (heap_setC (o := 5) (heap_setC (o := 4) (heap_setC (o := 3) (heap_setC (o := 2) (heap_setC (o := 1) (heap_setC (o := 0) K2.out (.int .i64 0)) (.string ⟨#[]⟩)) (.int .i64 0)) (.bool false)) (.int .i64 0)) (.int .i64 0)) (.int .i64 0))
    have KF := Lib.hid ((((Below.refl _ _).alloc (Nat.le_refl _) (.cells (tokA t) 50)).block _ (heap_lt KS)).trans KS)
    clear KS
    have k2 := box_cells K2.out
    have kf0 : ∀ o, w1.frozen? ⟨w.heap.size, o, none⟩ = false := fun o => by simp [World.frozen?, K2.out]
    have l2 : w.heap.size < w1.heap.size := by omega
    clear b1
    go_wp2_with fail
    exact bodyPost_ret (v := .tuple #[tokV ⟨0, ⟨#[]⟩, 0, false, 0, 0, 0⟩, .bool false]) (results_cell2 (i := 4) (j := 5) (b := w.heap.size) Tryz.results209 Tryz.isAgg50 Tryz.sizeOf50 rfl rfl KF.out rfl) rfl ⟨rfl, D2.out⟩
end Go.Proofs.YtpcldpnaljheoaaGreatDoor
end
section
namespace Go.Proofs.YtpcldpnaljheoaaGreatDoor
open Go.RowKit Go.Deep

def needK (ts : List Tok) (s : RS) (k : Nat) : RS := if (cur ts s).kind = k then stepS s else refuseS ts s
set_option maxHeartbeats 1000000 in
theorem needK_any {p g cap : Nat} {ts : List Tok} {s : RS} {w : World} (h : RdAt p g cap ts s w) (k : Nat) (hk0 : k ≠ 0) :
    Calls Tryz.prog 215 #[.pointer (some ⟨p, 0, none⟩), .int .i64 (k : Nat)] w fun e w' => e = .returned (tokV (tokK ts s k)) ∧ Did p g cap ts (needK ts s k) w w' := by
  have Z := (Below.refl w.heap.size w).alloc (Nat.le_refl _) (.cells #[.int .i64 0, .string ⟨#[]⟩, .int .i64 0, .bool false, .int .i64 0, .int .i64 0, .int .i64 0] 50)
  have D0 := Lib.hid (Did.of h Z)
  have K0 := Lib.hid (heap_new w (.cells #[.int .i64 0, .string ⟨#[]⟩, .int .i64 0, .bool false, .int .i64 0, .int .i64 0, .int .i64 0] 50))
  have HT := Lib.hid (takeK_any D0.out.rd k hk0)
  have hpl := h.lt
  have hgl := h.toks.lt
  have hzp : w.heap.size ≠ p := by omega
  have hzW := heap_lt K0.out
  unfold takeK at HT
  unfold needK
  clear h Z
  by_cases hk : (cur ts s).kind = k
  · rw [if_pos hk, show decide ((cur ts s).kind = k) = true by simpa using hk] at HT
    rw [if_pos hk]
    clear hk
    generalize tokK ts s k = t at HT ⊢
    go_enter Tryz.func215, Tryz.ntmps215
    go_wp2_with fail
    generalize w.alloc (.cells #[.int .i64 0, .string ⟨#[]⟩, .int .i64 0, .bool false, .int .i64 0, .int .i64 0, .int .i64 0] 50) = W at D0 K0 HT hzW ⊢
    refine HT.out.mono ?_
    rintro e w1 ⟨rfl, d1⟩
    rw [tokV_eq]
    have D1 := Lib.hid (D0.out.trans d1)
    have K1 := Lib.hid ((d1.onl.block _ hzp hzW).trans K0.out)
    have KS := (heap_setC (o := 6) (heap_setC (o := 5) (heap_setC (o := 4) (heap_setC (o := 3) (heap_setC (o := 2) (heap_setC (o := 1) (heap_setC (o := 0) K1.out (.int .i64 (t.kind : Nat))) (.string t.text)) (.int .i64 (t.n : Nat))) (.bool t.same)) (.int .i64 (t.pos : Nat))) (.int .i64 (t.line : Nat))) (.int .i64 (t.col : Nat)))
    have D2 := Lib.hid ((((((((D1.out.own hpl hgl (Nat.le_refl _) (o := 0) (.int .i64 (t.kind : Nat))).own hpl hgl (Nat.le_refl _) (o := 1) (.string t.text)).own hpl hgl (Nat.le_refl _) (o := 2) (.int .i64 (t.n : Nat))).own hpl hgl (Nat.le_refl _) (o := 3) (.bool t.same)).own hpl hgl (Nat.le_refl _) (o := 4) (.int .i64 (t.pos : Nat))).own hpl hgl (Nat.le_refl _) (o := 5) (.int .i64 (t.line : Nat))).own hpl hgl (Nat.le_refl _) (o := 6) (.int .i64 (t.col : Nat))).alloc (.cells (tokA t) 50))
    have KF := Lib.hid ((((Below.refl _ _).alloc (Nat.le_refl _) (.cells (tokA t) 50)).block _ (heap_lt KS)).trans KS)
    have k1 := box_cells K1.out
    have l1 := heap_lt K1.out
    have kf0 : ∀ o, w1.frozen? ⟨w.heap.size, o, none⟩ = false := fun o => by simp [World.frozen?, K1.out]
    clear d1 KS hzp
    go_wp2_with fail
    exact bodyPost_ret (v := tokV t) (results_cell (i := 4) (b := w.heap.size) Tryz.results215 Tryz.isAgg50 Tryz.sizeOf50 rfl rfl KF.out) rfl ⟨rfl, D2.out⟩
  · rw [if_neg hk, show decide ((cur ts s).kind = k) = false by simpa using hk] at HT
    rw [if_neg hk]
    clear hk
    generalize tokK ts s k = t at HT ⊢
    go_enter Tryz.func215, Tryz.ntmps215
    go_wp2_with fail
    generalize w.alloc (.cells #[.int .i64 0, .string ⟨#[]⟩, .int .i64 0, .bool false, .int .i64 0, .int .i64 0, .int .i64 0] 50) = W at D0 K0 HT hzW ⊢
    refine HT.out.mono ?_
    rintro e w1 ⟨rfl, d1⟩
    rw [tokV_eq]
    have D1 := Lib.hid ((D0.out.trans d1).alloc (.cells (tokA t) 50))
    have K1 := (d1.onl.block _ hzp hzW).trans K0.out
    have K2 := Lib.hid ((((Below.refl _ _).alloc (Nat.le_refl _) (.cells (tokA t) 50)).block _ (heap_lt K1)).trans K1)
    have T2 := Lib.hid (heap_new w1 (.cells (tokA t) 50))
    have l1 := heap_lt K1
    have hz1 := d1.onl.size
    have hqp : w1.heap.size ≠ p := by omega
    clear d1 K1
    have HZP := Lib.hid hzp
    have HQP := Lib.hid hqp
    clear hzp hqp
    go_wp2_with fail
    refine (refuse_any D1.out.rd).mono ?_
    rintro e w2 ⟨rfl, d2⟩
    have K3 := Lib.hid ((d2.onl.block _ HZP.out (heap_lt K2.out)).trans K2.out)
    have T3 := (d2.onl.block _ HQP.out (heap_lt T2.out)).trans T2.out
    have D2 := D1.out.trans d2
    have KS := (heap_setC (o := 6) (heap_setC (o := 5) (heap_setC (o := 4) (heap_setC (o := 3) (heap_setC (o := 2) (heap_setC (o := 1) (heap_setC (o := 0) K3.out (.int .i64 (t.kind : Nat))) (.string t.text)) (.int .i64 (t.n : Nat))) (.bool t.same)) (.int .i64 (t.pos : Nat))) (.int .i64 (t.line : Nat))) (.int .i64 (t.col : Nat)))
    have D3 := Lib.hid (((((((D2.own hpl hgl (Nat.le_refl _) (o := 0) (.int .i64 (t.kind : Nat))).own hpl hgl (Nat.le_refl _) (o := 1) (.string t.text)).own hpl hgl (Nat.le_refl _) (o := 2) (.int .i64 (t.n : Nat))).own hpl hgl (Nat.le_refl _) (o := 3) (.bool t.same)).own hpl hgl (Nat.le_refl _) (o := 4) (.int .i64 (t.pos : Nat))).own hpl hgl (Nat.le_refl _) (o := 5) (.int .i64 (t.line : Nat))).own hpl hgl (Nat.le_refl _) (o := 6) (.int .i64 (t.col : Nat)))
    have KF := Lib.hid KS
    have k3 := box_cells K3.out
    have t3 := box_cells T3
    have kf0 : ∀ o, w2.frozen? ⟨w.heap.size, o, none⟩ = false := fun o => by simp [World.frozen?, K3.out]
    clear d2 KS T3 D2
    go_wp2_with fail
    exact bodyPost_ret (v := tokV t) (results_cell (i := 4) (b := w.heap.size) Tryz.results215 Tryz.isAgg50 Tryz.sizeOf50 rfl rfl KF.out) rfl ⟨rfl, D3.out⟩
theorem field_text2 (t : Tok) (w : World) : (Instr.field 50 (tokV t) 1).run Tryz.prog w = .ok (.string t.text) w := field_text t w
theorem needN_any {p g cap : Nat} {ts : List Tok} {s : RS} {w : World} (h : RdAt p g cap ts s w) :
    Calls Tryz.prog 207 #[.pointer (some ⟨p, 0, none⟩)] w fun e w' => e = .returned (.string (needN ts s).1) ∧ Did p g cap ts (needN ts s).2 w w' := by
  have HK := Lib.hid (needK_any h 1 (by decide))
  have e1 : (needN ts s).1 = (tokK ts s 1).text := by unfold needN tokK; split <;> rfl
  have e2 : (needN ts s).2 = needK ts s 1 := by unfold needN needK; split <;> rfl
  rw [e1, e2]
  generalize tokK ts s 1 = t at HK ⊢
  clear h e1 e2
  go_enter Tryz.func207, Tryz.ntmps207
  go_wp2_with fail
  refine HK.out.mono ?_
  rintro e w1 ⟨rfl, d1⟩
  rw [tokV_eq]
  have D1 := Lib.hid d1
  have hf := field_text t
  clear d1
  go_wp2_with fail
  go_ret
  exact ⟨rfl, D1.out⟩
def needEndS (ts : List Tok) (s : RS) : RS := if (cur ts s).kind = 0 then s else refuseS ts s
end Go.Proofs.YtpcldpnaljheoaaGreatDoor
end
section
namespace Go.Proofs.YtpcldpnaljheoaaGreatDoor
open Go.RowKit Go.Deep

abbrev exV (op n : Int) (nm fd : ByteArray) (a : Option Addr) (len c : Nat) : Value := .agg #[.int .i64 op, .int .i64 n, .string nm, .string fd, .slice a len c]
/-- Five cells that read as an expression. -/
def ExAt (W : World) (x : List D) (op n : Int) (nm fd : ByteArray) (a : Option Addr) (len c : Nat) : Prop :=
  AllAt W [.int .i64 op, .int .i64 n, .string nm, .string fd, .slice a len c] x ∧ ShE x
theorem ExAt.sub {W W' : World} {x : List D} {op n : Int} {nm fd : ByteArray} {a : Option Addr} {len c : Nat} (h : ExAt W x op n nm fd a len c) (hs : Sub W W') : ExAt W' x op n nm fd a len c := ⟨h.1.sub hs, h.2⟩
theorem ExAt.len5 {W : World} {x : List D} {op n : Int} {nm fd : ByteArray} {a : Option Addr} {len c : Nat} (h : ExAt W x op n nm fd a len c) : x.length = 5 := h.1.len.symm
/-- An expression without operands. -/
theorem ExAt.leaf (W : World) {op n : Int} {nm fd : ByteArray} (h0 : -9223372036854775808 ≤ op) (h1 : op ≤ 9223372036854775807) (h2 : -9223372036854775808 ≤ n) (h3 : n ≤ 9223372036854775807) (h4 : nm.size ≤ maxLen) (h5 : fd.size ≤ maxLen) :
    ExAt W (mkE op n nm fd []) op n nm fd none 0 0 :=
  ⟨⟨.int _ h0 h1, .int _ h2 h3, .str _ h4, .str _ h5, .nil _ _ (Nat.zero_le _), trivial⟩, .mk _ _ _ _ _ (by simp)⟩
/-- One over a row. -/
theorem ExAt.over {W : World} {op n : Int} {nm fd : ByteArray} {a : Option Addr} {len c : Nat} {l : List (List D)} (hl : At W (.slice a len c) (.row l)) (hs : ∀ z ∈ l, ShE z) (h0 : -9223372036854775808 ≤ op) (h1 : op ≤ 9223372036854775807) (h2 : -9223372036854775808 ≤ n) (h3 : n ≤ 9223372036854775807) (h4 : nm.size ≤ maxLen) (h5 : fd.size ≤ maxLen) :
    ExAt W (mkE op n nm fd l) op n nm fd a len c :=
  ⟨⟨.int _ h0 h1, .int _ h2 h3, .str _ h4, .str _ h5, hl, trivial⟩, .mk _ _ _ _ _ hs⟩
theorem allAt_get {w : World} : ∀ {vs : List Value} {ds : List D}, AllAt w vs ds → ∀ (i : Nat) (v : Value) (d : D), vs[i]? = some v → ds[i]? = some d → At w v d
  | [], [], _, i, v, d, h1, _ => by simp at h1
  | v :: vs, d :: ds, h, 0, _, _, h1, h2 => by simp at h1 h2; subst h1 h2; exact h.1
  | v :: vs, d :: ds, h, i + 1, v', d', h1, h2 => allAt_get h.2 i v' d' (by simpa using h1) (by simpa using h2)
  | [], _ :: _, h, _, _, _, _, _ => h.elim
  | _ :: _, [], h, _, _, _, _, _ => h.elim
/-- A row of one, of two, in a block of their own. -/
theorem row1_at {W : World} {P : Nat → Prop} {b : Nat} {x : List D} {vs : List Value} {t : TypeId} {f : Nat × Nat} (hb : W.heap[b]? = some (.cells ⟨vs⟩ t f)) (hp : ¬ P b) (hx : AllAt (Mk P W) vs x) :
    At (Mk P W) (.slice (some ⟨b, 0, none⟩) 1 1) (.row [x]) := by
  refine .row b 0 1 1 vs.length [x] (fun _ => vs) rfl (Nat.le_refl _) (by decide) (by rw [mk_size]; exact heap_lt hb) (fun _ _ => rfl) (fun j ds h => ?_) (fun j i v hj hv => ?_) fun j i ds v d h1 h2 h3 => ?_
  · match j, h with
    | 0, h => obtain rfl : x = ds := by simpa using h
              exact hx.len.symm
  · obtain rfl : j = 0 := by omega
    rw [cell_eq (mk_get W hp), box_cells hb]
    simpa using hv
  · match j, h1 with
    | 0, h1 => obtain rfl : x = ds := by simpa using h1
               exact allAt_get hx i v d h2 h3
theorem row2_at {W : World} {P : Nat → Prop} {b : Nat} {x y : List D} {vs us : List Value} {t : TypeId} {f : Nat × Nat} (hb : W.heap[b]? = some (.cells ⟨vs ++ us⟩ t f)) (hp : ¬ P b) (hl : vs.length = us.length) (hx : AllAt (Mk P W) vs x) (hy : AllAt (Mk P W) us y) :
    At (Mk P W) (.slice (some ⟨b, 0, none⟩) 2 2) (.row [x, y]) := by
  refine .row b 0 2 2 vs.length [x, y] (fun j => if j = 0 then vs else us) rfl (Nat.le_refl _) (by decide) (by rw [mk_size]; exact heap_lt hb) (fun j _ => ?_) (fun j ds h => ?_) (fun j i v hj hv => ?_) fun j i ds v d h1 h2 h3 => ?_
  · by_cases e : j = 0
    · rw [if_pos e]
    · rw [if_neg e, hl]
  · match j, h with
    | 0, h => obtain rfl : x = ds := by simpa using h
              exact hx.len.symm
    | 1, h => obtain rfl : y = ds := by simpa using h
              exact hy.len.symm.trans hl.symm
  · rw [cell_eq (mk_get W hp), box_cells hb]
    match j, hj with
    | 0, _ =>
      rw [if_pos rfl] at hv
      have hi := (List.getElem?_eq_some_iff.1 hv).1
      simp [List.getElem?_append_left hi, hv]
    | 1, _ =>
      rw [if_neg (by decide)] at hv
      show (Array.mk (vs ++ us))[0 + 1 * vs.length + i]? = some v
      rw [List.getElem?_toArray, List.getElem?_append_right (by omega), show 0 + 1 * vs.length + i - vs.length = i by omega]
      exact hv
  · match j, h1 with
    | 0, h1 => obtain rfl : x = ds := by simpa using h1
               exact allAt_get hx i v d (by simpa using h2) h3
    | 1, h1 => obtain rfl : y = ds := by simpa using h1
               exact allAt_get hy i v d (by simpa using h2) h3
/-- The reader's block, and all below B. -/
def Bd (p B k : Nat) : Prop := k = p ∨ k < B
theorem mk_step {P : Nat → Prop} {W W' : World} (hs : W.heap.size ≤ W'.heap.size) (hb : ∀ k, k < W.heap.size → ¬ P k → W'.heap[k]? = W.heap[k]?) : Sub (Mk P W) (Mk P W') :=
  sub_of_blocks hs _ _ fun b h1 h2 => ⟨h2, hb b h1 h2⟩
theorem mk_weak {P P' : Nat → Prop} (W : World) (h : ∀ k, P' k → P k) : Sub (Mk P W) (Mk P' W) :=
  sub_of_blocks (Nat.le_refl _) _ _ fun b _ h2 => ⟨fun h3 => h2 (h b h3), rfl⟩
theorem mk_onl {P : Nat → Prop} {p : Nat} {W W' : World} (hp : P p) (o : Onl p W W') : Sub (Mk P W) (Mk P W') :=
  mk_step o.size fun k hk hn => o.block k (fun e => hn (e ▸ hp)) hk
theorem mk_set {P : Nat → Prop} {b o : Nat} (hp : P b) (W : World) (v : Value) : Sub (Mk P W) (Mk P (W.setCell ⟨b, o, none⟩ v)) :=
  mk_step (by simp [World.setCell]) fun k _ hn => Below.heap_setCell _ _ _ _ (fun e => hn (e ▸ hp))
/-- What a reader's call leaves that answers an expression: it lies from B on. -/
def XPost (p g cap : Nat) (ts : List Tok) (x : XS) (B : Nat) (w : World) (e : Ending) (w' : World) : Prop :=
  ∃ op n nm fd a len c, e = .returned (exV op n nm fd a len c) ∧ ExAt (Mk (Bd p B) w') x.1 op n nm fd a len c ∧ Did p g cap ts x.2 w w'
theorem of_any (op : Int) (a : Option Addr) (len c : Nat) (w : World) :
    Calls Tryz.prog 84 #[.int .i64 op, .slice a len c] w fun e w' => e = .returned (exV op 0 noB noB a len c) ∧ Below w.heap.size w w' := by
  unfold noB
  have K0 := Lib.hid (heap_new w (.cells #[.int .i64 op, .int .i64 0, .string ⟨#[]⟩, .string ⟨#[]⟩, .slice a len c] 25))
  go_enter Tryz.func84, Tryz.ntmps84
  go_wp2_with fail
  exact bodyPost_ret (v := exV op 0 ⟨#[]⟩ ⟨#[]⟩ a len c) (results_cell (i := 4) (b := w.heap.size) Tryz.results84 Tryz.isAgg25 Tryz.sizeOf25 rfl rfl K0.out) rfl ⟨rfl, (Below.refl _ _).alloc (Nat.le_refl _) _⟩
end Go.Proofs.YtpcldpnaljheoaaGreatDoor
end
section
namespace Go.Proofs.YtpcldpnaljheoaaGreatDoor
open Go.RowKit Go.Deep

/-- The tables lie where they lay, and not at the reader. -/
structure Gl (p : Nat) (w : World) : Prop where
  lo : 8 < p
  hi : p < w.heap.size
  sg : ∀ k x, signsP[k]? = some x → w.cell? ⟨0, 10 + k, none⟩ = some (.string x)
  tr0 : w.cell? ⟨1, 0, none⟩ = some (.string falseB)
  tr1 : w.cell? ⟨1, 1, none⟩ = some (.string trueB)
theorem Gl.onl {p : Nat} {a b : World} (h : Gl p a) (o : Onl p a b) : Gl p b := by
  have h0 := h.lo
  have h1 := h.hi
  exact ⟨h.lo, Nat.lt_of_lt_of_le h.hi o.size, fun k x hx => (cell_eq (o.block 0 (by omega) (by omega))).trans (h.sg k x hx), (cell_eq (o.block 1 (by omega) (by omega))).trans h.tr0, (cell_eq (o.block 1 (by omega) (by omega))).trans h.tr1⟩
theorem Gl.set {p : Nat} {a : World} (h : Gl p a) {b o : Nat} (hb : p < b) (v : Value) : Gl p (a.setCell ⟨b, o, none⟩ v) := by
  have h0 := h.lo
  exact ⟨h.lo, by have := h.hi; simpa [World.setCell] using this, fun k x hx => (cell_eq (Below.heap_setCell _ _ _ _ (by show 0 ≠ b; omega))).trans (h.sg k x hx), (cell_eq (Below.heap_setCell _ _ _ _ (by show 1 ≠ b; omega))).trans h.tr0, (cell_eq (Below.heap_setCell _ _ _ _ (by show 1 ≠ b; omega))).trans h.tr1⟩
set_option maxHeartbeats 1000000 in
theorem opOf_any {p : Nat} {w : World} (hG : Gl p w) (t : ByteArray) :
    Calls Tryz.prog 135 #[.string t] w fun e w' => e = .returned (.int .i64 (opNo signsP t : Nat)) ∧ w' = w := by
  have G := Lib.hid hG
  unfold opNo
  generalize hr : opFrom signsP 10 t = r
  have HR := Lib.hid hr
  have hlo := hG.lo
  have hhi := hG.hi
  clear hr hG
  go_enter Tryz.func135, Tryz.ntmps135
  go_wp2_with fail
  go_loop [3] (fun i => ∃ k : Nat, k ≤ 15 ∧ i = .int .i64 ((10 + k : Nat) : Int) ∧ opFrom (signsP.drop k) (10 + k) t = r) (fun i => 30 - (intOf i).toNat)
  case atStart => exact ⟨0, by omega, rfl, HR.out⟩
  case round =>
    obtain ⟨k, hk, rfl, hno⟩ := hrel
    have HN := Lib.hid hno
    clear hno HR
    by_cases hlt : k < 15
    · obtain ⟨x, hx⟩ : ∃ x, signsP[k]? = some x := ⟨_, List.getElem?_eq_getElem (show k < signsP.length by simpa [signsP] using hlt)⟩
      have hc := G.out.sg k x hx
      have hd : signsP.drop k = x :: signsP.drop (k + 1) := by
        obtain ⟨hl, rfl⟩ := List.getElem?_eq_some_iff.1 hx
        exact List.drop_eq_getElem_cons hl
      rw [hd] at HN
      have d1 : decide (((10 + k : Nat) : Int) ≤ 24) = true := by simp; omega
      have d2 : (0 : Int) ≤ ((10 + k : Nat) : Int) := by omega
      have d3 : ((10 + k : Nat) : Int) < 25 := by omega
      have hw : IntKind.i64.wrap (((10 + k : Nat) : Int) + 1) = ((10 + (k + 1) : Nat) : Int) := by rw [IntWalk.i64_in _ (by omega)]; omega
      clear hd hx
      generalize hq : 10 + k = q at *
      by_cases hb0 : x = t
      · have hb : (x.toList == t.toList) = true := (beq_iff _ _).2 hb0
        obtain rfl : q = r := by rw [← HN.out]; unfold opFrom; rw [if_pos hb0]
        clear hb0
        go_wp2_with fail
        go_ret
        exact ⟨rfl, rfl⟩
      · have hb : (x.toList == t.toList) = false := (beq_false _ _).2 hb0
        have HT := Lib.hid (show opFrom (signsP.drop (k + 1)) (q + 1) t = r by rw [← HN.out]; conv => rhs; unfold opFrom; rw [if_neg hb0])
        clear hb0 HN
        go_wp2_with fail
        go_round
        case rel => exact ⟨k + 1, by omega, by go_num, by rw [show 10 + (k + 1) = q + 1 by omega]; exact HT.out⟩
        case measure => simp [intOf]; omega
    · obtain rfl : k = 15 := by omega
      obtain rfl : r = 0 := HN.out.symm
      go_wp2_with fail
      go_ret
      exact ⟨rfl, rfl⟩
end Go.Proofs.YtpcldpnaljheoaaGreatDoor
end
section
namespace Go.Proofs.YtpcldpnaljheoaaGreatDoor
open Go.RowKit Go.Deep

theorem beqL_yes {t : ByteArray} {l : List UInt8} (h : t = ⟨l.toArray⟩) : (t.toList == l) = true := by
  rw [ByteArray.toList_eq, h]
  simp
theorem beqL_no {t : ByteArray} {l : List UInt8} (h : t ≠ ⟨l.toArray⟩) : (t.toList == l) = false := by
  rw [ByteArray.toList_eq]
  cases hb : (t.data.toList == l) with
  | false => rfl
  | true => exact absurd (ByteArray.ext (Array.ext' (by simpa using hb))) h
abbrev xV (p : Nat) (f a l c : Int) : Value := .agg #[.pointer (some ⟨p, 0, none⟩), .int .i64 f, .int .i64 a, .int .i64 l, .int .i64 c]
abbrev xC (p : Nat) (f a l c : Int) : Array Value := #[.pointer (some ⟨p, 0, none⟩), .int .i64 f, .int .i64 a, .int .i64 l, .int .i64 c]
set_option maxHeartbeats 1000000 in
theorem operation_any {p g cap : Nat} {ts : List Tok} {s : RS} {w : World} (h : RdAt p g cap ts s w) (hG : Gl p w) {a : Option Addr} {len c : Nat} {ss : List ByteArray} (hS : IsStrs w a len c ss) (f x y z : Int) :
    Calls Tryz.prog 83 #[xV p f x y z, .slice a len c] w fun e w' => e = .returned (.int .i64 ((opP ts s ss).1 : Nat)) ∧ Did p g cap ts (opP ts s ss).2 w w' := by
  have B := (Below.refl w.heap.size w).alloc (Nat.le_refl _) (.cells (xC p f x y z) 92)
  have D0 := Lib.hid (Did.of h B)
  have K0 := Lib.hid (heap_new w (.cells (xC p f x y z) 92))
  have HT := Lib.hid (takeR_any D0.out.rd (hS.below B))
  have hpl := h.lt
  have HG := Lib.hid hG
  have hzp : w.heap.size ≠ p := by omega
  unfold opP
  generalize takeT ts s ss = r at HT ⊢
  obtain ⟨t, s1⟩ := r
  generalize hR : (if t = orB ∧ isT ts s1 [elseB] = true then ((18 : Nat), stepS s1) else if t = andB ∧ isT ts s1 [thenB] = true then (14, stepS s1) else (opNo signsP t, s1)) = R
  have HR := Lib.hid hR
  clear h hS hG B hR
  go_enter Tryz.func83, Tryz.ntmps83
  go_wp2_with fail
  have k0 := box_cells K0.out
  have hzl := heap_lt K0.out
  go_wp2_with fail
  refine HT.out.mono ?_
  rintro e w1 ⟨rfl, d1⟩
  by_cases ho : t = orB
  · have b1 : (t.toList == [111, 114]) = true := beqL_yes ho
    have b2 : (t.toList == [97, 110, 100]) = false := beqL_no (by rw [ho]; decide)
    have HB := Lib.hid ho
    clear ho
    have K1 := Lib.hid ((d1.onl.block _ hzp (heap_lt K0.out)).trans K0.out)
    have D1 := Lib.hid (D0.out.trans d1)
    have L1 := Lib.hid (lit_strs w1 [elseB] (by decide) (by decide))
    have DA := Lib.hid (D1.out.alloc (.cells #[.string elseB] 9))
    have HT2 := Lib.hid (takeR_any DA.out.rd L1.out)
    have k1 := box_cells K1.out
    have hl1 := heap_lt K1.out
    clear d1 HT
    cases hi : isT ts s1 [elseB] with
    | true =>
      have hne := text_ne (fun h => absurd (List.mem_singleton.1 h) (by decide)) hi
      rw [takeT_yes hi] at HT2
      obtain rfl : R = (18, stepS s1) := by rw [← HR.out, if_pos ⟨HB.out, hi⟩]
      generalize cur ts s1 = tk at HT2 hne
      clear hi
      go_wp2_with fail
      refine HT2.out.mono ?_
      rintro e w2 ⟨rfl, d2⟩
      have D2 := Lib.hid (DA.out.trans d2)
      clear d2
      go_wp2_with fail
      go_ret
      exact ⟨rfl, D2.out⟩
    | false =>
      rw [takeT_no hi] at HT2
      obtain rfl : R = (opNo signsP t, s1) := by rw [← HR.out, if_neg (fun h => by rw [hi] at h; exact Bool.noConfusion h.2), if_neg (fun h => absurd (HB.out.symm.trans h.1) (by decide))]
      clear hi
      go_wp2_with fail
      refine HT2.out.mono ?_
      rintro e w2 ⟨rfl, d2⟩
      have D2 := Lib.hid (DA.out.trans d2)
      have HO := Lib.hid (opOf_any (HG.out.onl D2.out.onl) t)
      clear d2
      go_wp2_with fail
      refine HO.out.mono ?_
      rintro e w3 ⟨rfl, rfl⟩
      go_wp2_with fail
      go_ret
      exact ⟨rfl, D2.out⟩
  · have b1 : (t.toList == [111, 114]) = false := beqL_no ho
    have HB := Lib.hid ho
    clear ho
    by_cases ha : t = andB
    · have b2 : (t.toList == [97, 110, 100]) = true := beqL_yes ha
      have HA := Lib.hid ha
      clear ha
      have K1 := Lib.hid ((d1.onl.block _ hzp (heap_lt K0.out)).trans K0.out)
      have D1 := Lib.hid (D0.out.trans d1)
      have L1 := Lib.hid (lit_strs w1 [thenB] (by decide) (by decide))
      have DA := Lib.hid (D1.out.alloc (.cells #[.string thenB] 9))
      have HT2 := Lib.hid (takeR_any DA.out.rd L1.out)
      have k1 := box_cells K1.out
      have hl1 := heap_lt K1.out
      clear d1 HT
      cases hi : isT ts s1 [thenB] with
      | true =>
        have hne := text_ne (fun h => absurd (List.mem_singleton.1 h) (by decide)) hi
        rw [takeT_yes hi] at HT2
        obtain rfl : R = (14, stepS s1) := by rw [← HR.out, if_neg (fun h => HB.out h.1), if_pos ⟨HA.out, hi⟩]
        generalize cur ts s1 = tk at HT2 hne
        clear hi
        go_wp2_with fail
        refine HT2.out.mono ?_
        rintro e w2 ⟨rfl, d2⟩
        have D2 := Lib.hid (DA.out.trans d2)
        clear d2
        go_wp2_with fail
        go_ret
        exact ⟨rfl, D2.out⟩
      | false =>
        rw [takeT_no hi] at HT2
        obtain rfl : R = (opNo signsP t, s1) := by rw [← HR.out, if_neg (fun h => HB.out h.1), if_neg (fun h => by rw [hi] at h; exact Bool.noConfusion h.2)]
        clear hi
        go_wp2_with fail
        refine HT2.out.mono ?_
        rintro e w2 ⟨rfl, d2⟩
        have D2 := Lib.hid (DA.out.trans d2)
        have HO := Lib.hid (opOf_any (HG.out.onl D2.out.onl) t)
        clear d2
        go_wp2_with fail
        refine HO.out.mono ?_
        rintro e w3 ⟨rfl, rfl⟩
        go_wp2_with fail
        go_ret
        exact ⟨rfl, D2.out⟩
    · have b2 : (t.toList == [97, 110, 100]) = false := beqL_no ha
      have HA := Lib.hid ha
      clear ha
      obtain rfl : R = (opNo signsP t, s1) := by rw [← HR.out, if_neg (fun h => HB.out h.1), if_neg (fun h => HA.out h.1)]
      have K1 := Lib.hid ((d1.onl.block _ hzp (heap_lt K0.out)).trans K0.out)
      have D1 := Lib.hid (D0.out.trans d1)
      have HO := Lib.hid (opOf_any (HG.out.onl D1.out.onl) t)
      have k1 := box_cells K1.out
      have hl1 := heap_lt K1.out
      clear d1 HT
      go_wp2_with fail
      refine HO.out.mono ?_
      rintro e w3 ⟨rfl, rfl⟩
      go_wp2_with fail
      go_ret
      exact ⟨rfl, D1.out⟩
end Go.Proofs.YtpcldpnaljheoaaGreatDoor
end
section
namespace Go.Proofs.YtpcldpnaljheoaaGreatDoor
open Go.RowKit Go.Deep

theorem left_takeT (ts : List Tok) (s : RS) (l : List ByteArray) : leftS ts (takeT ts s l).2 ≤ leftS ts s := by
  cases h : isT ts s l with
  | false => rw [takeT_no h]; exact Nat.le_refl _
  | true => rw [takeT_yes h]; exact Nat.le_of_lt (left_step (isT_k h))
theorem left_stepT {ts : List Tok} {s : RS} {l : List ByteArray} (h : isT ts s l = true) : leftS ts (stepS s) < leftS ts s := left_step (isT_k h)
theorem left_refuse (ts : List Tok) (s : RS) : leftS ts (refuseS ts s) ≤ leftS ts s := by
  unfold refuseS failS leftS
  by_cases h : s.f = 0
  · simp only [h, if_true]
    split
    · exact Nat.le_refl _
    · exact Nat.zero_le _
  · simp [h]
theorem left_needT (ts : List Tok) (s : RS) (l : List ByteArray) : leftS ts (needT ts s l) ≤ leftS ts s := by
  unfold needT
  cases h : isT ts s l with
  | false => rw [if_neg (by decide)]; exact left_refuse ts s
  | true => rw [if_pos rfl]; exact Nat.le_of_lt (left_stepT h)
theorem left_needN (ts : List Tok) (s : RS) : leftS ts (needN ts s).2 ≤ leftS ts s := by
  unfold needN
  split
  · exact Nat.le_of_lt (left_step (cur_k (by omega)))
  · exact left_refuse ts s
theorem opP_cases (ts : List Tok) (s : RS) (l : List ByteArray) : (isT ts s l = false ∧ opP ts s l = (0, s)) ∨ (isT ts s l = true ∧ leftS ts (opP ts s l).2 ≤ leftS ts (stepS s)) := by
  cases h : isT ts s l with
  | false =>
    refine .inl ⟨rfl, ?_⟩
    unfold opP
    rw [takeT_no h, if_neg (fun e => absurd (show (⟨#[]⟩ : ByteArray) = orB from e.1) (by decide)), if_neg (fun e => absurd (show (⟨#[]⟩ : ByteArray) = andB from e.1) (by decide))]
    rfl
  | true =>
    refine .inr ⟨rfl, ?_⟩
    unfold opP
    rw [takeT_yes h]
    split
    · rename_i e; exact Nat.le_of_lt (left_stepT e.2)
    · split
      · rename_i e; exact Nat.le_of_lt (left_stepT e.2)
      · exact Nat.le_refl _
theorem left_opP (ts : List Tok) (s : RS) (l : List ByteArray) : leftS ts (opP ts s l).2 ≤ leftS ts s := by
  rcases opP_cases ts s l with ⟨_, e⟩ | ⟨h, e⟩
  · rw [e]; exact Nat.le_refl _
  · exact Nat.le_trans e (Nat.le_of_lt (left_stepT h))
theorem left_opP_lt {ts : List Tok} {s : RS} {l : List ByteArray} (h0 : (opP ts s l).1 ≠ 0) : leftS ts (opP ts s l).2 < leftS ts s := by
  rcases opP_cases ts s l with ⟨_, e⟩ | ⟨h, e⟩
  · rw [e] at h0; exact absurd rfl h0
  · exact Nat.lt_of_le_of_lt e (left_stepT h)
theorem opFrom_le : ∀ (l : List ByteArray) (k : Nat) (t : ByteArray), opFrom l k t ≤ k + l.length
  | [], _, _ => Nat.zero_le _
  | x :: r, k, t => by
    unfold opFrom
    split
    · omega
    · have := opFrom_le r (k + 1) t
      simp only [List.length_cons]; omega
theorem opP_le (ts : List Tok) (s : RS) (l : List ByteArray) : (opP ts s l).1 ≤ 100 := by
  unfold opP
  split
  · simp
  · split
    · simp
    · exact Nat.le_trans (opFrom_le _ _ _) (by decide)
theorem left_rowP (ts : List Tok) (l : List ByteArray) (G : RS → XS) (hG : ∀ s, leftS ts (G s).2 ≤ leftS ts s) : ∀ (m : Nat) (e : List D) (s : RS), leftS ts (rowP ts l G m e s).2 ≤ leftS ts s
  | 0, _, _ => Nat.le_refl _
  | m + 1, e, s => by
    unfold rowP
    split
    · exact left_opP ts s l
    · exact Nat.le_trans (left_rowP ts l G hG m _ _) (Nat.le_trans (hG _) (left_opP ts s l))
/-- A call of a reader's that answers expressions. -/
structure Ok (p g cap : Nat) (ts : List Tok) (f x y z : Int) (q : Nat) (F : RS → XS) (n : Nat) : Prop where
  call : ∀ s w, RdAt p g cap ts s w → Gl p w → leftS ts s < n → Calls Tryz.prog q #[xV p f x y z] w (XPost p g cap ts (F s) w.heap.size w)
  mono : ∀ s, leftS ts (F s).2 ≤ leftS ts s
/-- Texts that lie elsewhere, below C. -/
structure StrsAt (p C : Nat) (w : World) (a : Option Addr) (len c : Nat) (ss : List ByteArray) : Prop where
  is : IsStrs w a len c ss
  ne : ∀ b o, a = some ⟨b, o, none⟩ → b ≠ p ∧ b < C
theorem StrsAt.onl {p C : Nat} {w w' : World} {a : Option Addr} {len c : Nat} {ss : List ByteArray} (h : StrsAt p C w a len c ss) (o : Onl p w w') : StrsAt p C w' a len c ss :=
  ⟨h.is.kept o.size fun b q hb hl => o.block b (h.ne b q hb).1 hl, h.ne⟩
theorem StrsAt.set {p C : Nat} {w : World} {a : Option Addr} {len c : Nat} {ss : List ByteArray} (h : StrsAt p C w a len c ss) {b o : Nat} (hb : C ≤ b) (v : Value) : StrsAt p C (w.setCell ⟨b, o, none⟩ v) a len c ss :=
  ⟨h.is.kept (by simp [World.setCell]) fun k q hk _ => Below.heap_setCell _ _ _ _ (by have := (h.ne k q hk).2; show k ≠ b; omega), h.ne⟩
theorem StrsAt.mono {p C C' : Nat} {w : World} {a : Option Addr} {len c : Nat} {ss : List ByteArray} (h : StrsAt p C w a len c ss) (hC : C ≤ C') : StrsAt p C' w a len c ss :=
  ⟨h.is, fun b o e => ⟨(h.ne b o e).1, Nat.lt_of_lt_of_le (h.ne b o e).2 hC⟩⟩
noncomputable def leftW (ts : List Tok) (p : Nat) (w : World) : Nat := match w.cell? ⟨p, 1, none⟩, w.cell? ⟨p, 2, none⟩ with
  | some (.int _ k), some (.int _ f) => if f = 0 then ts.length - k.toNat else 0
  | _, _ => 0
theorem leftW_at {p g cap : Nat} {ts : List Tok} {s : RS} {w : World} (h : RdAt p g cap ts s w) : leftW ts p w = leftS ts s := by
  have h1 : w.cell? ⟨p, 1, none⟩ = some (.int .i64 (s.k : Nat)) := h.c 1
  have h2 : w.cell? ⟨p, 2, none⟩ = some (.int .i64 (s.f : Nat)) := h.c 2
  unfold leftW leftS
  rw [h1, h2]
  simp only [Int.toNat_natCast]
  by_cases hf : s.f = 0
  · simp [hf]
  · simp [hf]
abbrev exC (op n : Int) (nm fd : ByteArray) (a : Option Addr) (len c : Nat) : Array Value := #[.int .i64 op, .int .i64 n, .string nm, .string fd, .slice a len c]
end Go.Proofs.YtpcldpnaljheoaaGreatDoor
end
section
namespace Go.Proofs.YtpcldpnaljheoaaGreatDoor
open Go.RowKit Go.Deep Go.Maps

def upE (d op n : Int) (nm fd : ByteArray) (len : Nat) : Bool := (op == 25) && ((n == 0) && (fd.toList.isEmpty && (decide (len = 0) && okName d nm)))
set_option maxRecDepth 100000 in
set_option maxHeartbeats 1000000 in
theorem up_any (d ar op n : Int) (nm fd : ByteArray) (a : Option Addr) (len cap : Nat) (w : World) (hs : nm.size ≤ maxLen) :
    Calls Tryz.prog 174 #[.agg #[.int .i64 d, .int .i64 ar], .agg #[.int .i64 op, .int .i64 n, .string nm, .string fd, .slice a len cap]] w fun e w' => e = .returned (.bool (upE d op n nm fd len)) ∧ Below w.heap.size w w' := by
  have R1 := Lib.hid (((Below.refl w.heap.size w).alloc (Nat.le_refl _) (.cells #[.int .i64 d, .int .i64 ar] 140)).alloc (by simp) (.cells #[.int .i64 op, .int .i64 n, .string nm, .string fd, .slice a len cap] 25))
  cases h1 : op == 25 with
  | false =>
    have HO := Lib.hid (show upE d op n nm fd len = false by unfold upE; rw [h1]; rfl)
    go_enter Tryz.func174, Tryz.ntmps174
    go_wp2_with fail
    go_ret
    exact ⟨by rw [HO.out]; rfl, R1.out⟩
  | true =>
  cases h2 : n == 0 with
  | false =>
    have HO := Lib.hid (show upE d op n nm fd len = false by unfold upE; rw [h1, h2]; rfl)
    go_enter Tryz.func174, Tryz.ntmps174
    go_wp2_with fail
    go_ret
    exact ⟨by rw [HO.out]; rfl, R1.out⟩
  | true =>
  cases h3 : fd.toList.isEmpty with
  | false =>
    have HO := Lib.hid (show upE d op n nm fd len = false by unfold upE; rw [h1, h2, h3]; rfl)
    go_enter Tryz.func174, Tryz.ntmps174
    go_wp2_with fail
    go_ret
    exact ⟨by rw [HO.out]; rfl, R1.out⟩
  | true =>
  by_cases h4 : len = 0
  · have HO := Lib.hid (show upE d op n nm fd len = okName d nm by unfold upE; rw [h1, h2, h3, h4]; rfl)
    subst h4
    go_enter Tryz.func174, Tryz.ntmps174
    go_wp2_with fail
    refine (cname_any d ar nm _ hs).mono ?_
    rintro e w1 ⟨rfl, b1⟩
    have B1 := Lib.hid (R1.out.trans (b1.mono (by simp; omega)))
    clear b1
    generalize hr : okName d nm = r
    rw [hr] at HO
    go_wp2_with fail
    go_ret
    exact ⟨by rw [HO.out]; rfl, B1.out⟩
  · have HO := Lib.hid (show upE d op n nm fd len = false by unfold upE; rw [h1, h2, h3, decide_eq_false h4]; rfl)
    have h5 : ((len : Int) == 0) = false := by simpa using h4
    go_enter Tryz.func174, Tryz.ntmps174
    go_wp2_with fail
    go_ret
    exact ⟨by rw [HO.out]; rfl, R1.out⟩

def isUp : List D → Bool
  | .int op :: _ => op == 25
  | _ => false
def firstU (d : Int) (l : List (List D)) : Nat := if d == 1 then l.findIdx isUp else l.length
theorem firstU_le (d : Int) (l : List (List D)) : firstU d l ≤ l.length := by
  unfold firstU
  split
  · exact List.findIdx_le_length
  · exact Nat.le_refl _
theorem firstU_hit {d : Int} {l : List (List D)} {k : Nat} {x : List D} (hd : (d == 1) = true) (hx : l[k]? = some x) (ht : ∀ y ∈ l.take k, isUp y = false) (hu : isUp x = true) : firstU d l = k := by
  unfold firstU
  rw [hd, if_pos rfl]
  obtain ⟨hk, rfl⟩ := List.getElem?_eq_some_iff.1 hx
  rw [List.findIdx_eq hk]
  refine ⟨hu, fun j hj => ht _ ?_⟩
  exact List.mem_take_iff_getElem.2 ⟨j, by omega, rfl⟩
theorem firstU_none {d : Int} {l : List (List D)} (hd : (d == 1) = true) (ht : ∀ y ∈ l.take l.length, isUp y = false) : firstU d l = l.length := by
  unfold firstU
  rw [hd, if_pos rfl]
  rw [List.take_length] at ht
  exact List.findIdx_eq_length.2 ht
theorem noUp_succ {l : List (List D)} {k : Nat} {x : List D} (hx : l[k]? = some x) (ht : ∀ y ∈ l.take k, isUp y = false) (hu : isUp x = false) : ∀ y ∈ l.take (k + 1), isUp y = false := by
  intro y hy
  rw [List.take_add_one, hx] at hy
  rcases List.mem_append.1 hy with h | h
  · exact ht y h
  · have : y = x := by simpa using h
    rw [this]; exact hu
set_option maxRecDepth 100000 in
set_option maxHeartbeats 1000000 in
theorem firstUp_any (w0 : World) (d ar : Int) (a : Option Addr) (len cap : Nat) (l : List (List D)) (hA : At w0 (.slice a len cap) (.row l)) (hs : ∀ x ∈ l, ShE x) (W : World) (hW : Below w0.heap.size w0 W) :
    Calls Tryz.prog 172 #[.agg #[.int .i64 d, .int .i64 ar], .slice a len cap] W fun e W' => e = .returned (.int .i64 (firstU d l : Nat)) ∧ Below W.heap.size W W' := by
  have HA := Lib.hid hA
  have HS := Lib.hid hs
  have HW := Lib.hid hW
  have hle := hA.len_le
  have HL := Lib.hid hA.len_eq.1
  have R1 := Lib.hid ((Below.refl W.heap.size W).alloc (Nat.le_refl _) (.cells #[.int .i64 d, .int .i64 ar] 140))
  clear hA hs hW
  cases hd : d == 1 with
  | false =>
    have HO := Lib.hid (show firstU d l = len by unfold firstU; rw [hd]; exact HL.out)
    go_enter Tryz.func172, Tryz.ntmps172
    go_wp2_with fail
    go_ret
    exact ⟨by rw [HO.out]; rfl, R1.out⟩
  | true =>
    go_enter Tryz.func172, Tryz.ntmps172
    go_wp2_with fail
    go_loopw [12] (fun i wr => ∃ k : Nat, k ≤ len ∧ i = .int .i64 k ∧ (∀ y ∈ l.take k, isUp y = false) ∧ Below W.heap.size W wr) (fun i _ => len - (intOf i).toNat)
    case atStart => exact ⟨0, Nat.zero_le _, rfl, by simp, R1.out⟩
    case round =>
      obtain ⟨k, hk, rfl, ht, hb⟩ := hrel
      have HT := Lib.hid ht
      have HB := Lib.hid hb
      have HD := Lib.hid hd
      clear ht hb
      by_cases hlt : k < len
      · obtain ⟨b, o, vs, ds, rfl, hbl, hx, hv, hc⟩ := HA.out.elem hlt
        obtain ⟨op, n, nm, fd, kl, kla, klc, hds, hvs, _⟩ := hv.openE (HS.out _ (List.mem_of_getElem? hx))
        subst hvs
        have hdl : ds.length = 5 := by rw [hds]; rfl
        rw [hdl] at hc
        have B0 := HW.out.trans (HB.out.mono HW.out.size)
        have c0 := (B0.cell (p := ⟨b, o + k * 5, none⟩) hbl).trans (hc 0 _ rfl)
        have c1 := (B0.cell (p := ⟨b, o + k * 5 + 1, none⟩) hbl).trans (hc 1 _ rfl)
        have c2 := (B0.cell (p := ⟨b, o + k * 5 + 2, none⟩) hbl).trans (hc 2 _ rfl)
        have c3 := (B0.cell (p := ⟨b, o + k * 5 + 3, none⟩) hbl).trans (hc 3 _ rfl)
        have c4 := (B0.cell (p := ⟨b, o + k * 5 + 4, none⟩) hbl).trans (hc 4 _ rfl)
        have hbw : b < wr.heap.size := Nat.lt_of_lt_of_le hbl B0.size
        have HX := Lib.hid hx
        have HU := Lib.hid (show isUp ds = (op == 25) by rw [hds]; rfl)
        have HR := Lib.hid (HB.out.alloc HB.out.size (.cells #[.int .i64 op, .int .i64 n, .string nm, .string fd, .slice kla kl.length klc] 25))
        clear hx hds hdl hc B0 hv
        cases hu : op == 25 with
        | true =>
          have HE := Lib.hid (firstU_hit HD.out HX.out HT.out (HU.out.trans hu))
          go_wp2_with fail
          go_ret
          exact ⟨by rw [HE.out]; rfl, HR.out⟩
        | false =>
          have HE := Lib.hid (noUp_succ HX.out HT.out (HU.out.trans hu))
          go_wp2_with fail
          go_roundw
          case rel => exact ⟨k + 1, by omega, by go_num, HE.out, HR.out⟩
          case measure => simp [intOf]; omega
      · obtain rfl : k = len := by omega
        have HE := Lib.hid (firstU_none (l := l) HD.out (by rw [HL.out]; exact HT.out))
        go_wp2_with fail
        go_ret
        exact ⟨by rw [HE.out, HL.out]; rfl, HB.out⟩
end Go.Proofs.YtpcldpnaljheoaaGreatDoor
end
section
namespace Go.Proofs.YtpcldpnaljheoaaGreatDoor
open Go.RowKit Go.Shelf Go.Deep
attribute [local go_sem] Oper.semAt_some

def okR (d : Int) (s : ByteArray) : Bool := if d == 1 then (parts s).all (okName d) else okName d s
theorem results_cell1 {fn : Func} {tmps : Array Value} {w : World} {i : Nat} {T : TypeId} (hres : fn.results = #[.cell i T]) (hag : ∀ w, (isAgg T).run Tryz.prog w = .ok false w) {b : Nat} (ht : tmps.getD i undef = .pointer (some ⟨b, 0, none⟩)) {v : Value} (hb : w.cell? ⟨b, 0, none⟩ = some v) :
    (results fn tmps).run Tryz.prog w = .ok v w := by
  rw [Array.getD_eq_getD_getElem?] at ht
  unfold results
  simp [hres, ht, loadVar, asAddr, hag, hb, Sem.run_bind]
structure RnJ (d ar : Int) (w : World) (r : Value) (W : World) : Prop where
  bc : W.heap[w.heap.size]? = some (.cells #[.int .i64 d, .int .i64 ar] 140 (0, 0))
  br : Boxed W (w.heap.size + 1) 4 r
  bel : Below w.heap.size w W
  sz : w.heap.size + 3 ≤ W.heap.size
theorem RnJ.same {d ar : Int} {w : World} {r : Value} {W W' : World} (h : RnJ d ar w r W) {row : Option Nat} (hg : W.grownBy W' row) (hr : ∀ b, row = some b → w.heap.size + 3 ≤ b) : RnJ d ar w r W' := by
  have hz := h.sz
  have blk : ∀ b, b < w.heap.size + 3 → W'.heap[b]? = W.heap[b]? := fun b hb => hg.block b (by omega) fun e => by have := hr b e.symm; omega
  exact ⟨(blk _ (by omega)).trans h.bc, (blk _ (by omega)).trans h.br, ⟨hg.os.trans h.bel.os, hg.tape.trans h.bel.tape, hg.output.trans h.bel.output, Nat.le_trans h.bel.size hg.size, fun b hb => (blk b (by omega)).trans (h.bel.block b hb)⟩, Nat.le_trans hz hg.size⟩
theorem RnJ.below {d ar : Int} {w : World} {r : Value} {W W' : World} (h : RnJ d ar w r W) (b : Below W.heap.size W W') : RnJ d ar w r W' :=
  have hz := h.sz
  ⟨(b.block _ (by omega)).trans h.bc, (b.block _ (by omega)).trans h.br, h.bel.trans (b.mono (by omega)), Nat.le_trans hz b.size⟩
theorem RnJ.set {d ar : Int} {w : World} {r : Value} {W : World} (h : RnJ d ar w r W) (v : Value) : RnJ d ar w v (W.setCell ⟨w.heap.size + 1, 0, none⟩ v) := by
  have hg := grownBy_setCell' W (w.heap.size + 1) v
  have hz := h.sz
  have ne : ∀ b, b < w.heap.size + 1 → some b ≠ some (w.heap.size + 1) := fun b hb e => by
    injection e with e
    omega
  have blk : ∀ b, b < w.heap.size + 1 → (W.setCell ⟨w.heap.size + 1, 0, none⟩ v).heap[b]? = W.heap[b]? := fun b hb => hg.block b (by omega) (ne b hb)
  exact ⟨(blk _ (by omega)).trans h.bc, h.br.set v, ⟨hg.os.trans h.bel.os, hg.tape.trans h.bel.tape, hg.output.trans h.bel.output, Nat.le_trans h.bel.size hg.size, fun b hb => (blk b (by omega)).trans (h.bel.block b hb)⟩, Nat.le_trans hz hg.size⟩
def RnI (d ar : Int) (w : World) (pre : List (Tx maxLen)) (W : World) : Prop := (pre.map (·.1)).all (okName d) = true ∧ RnJ d ar w (.bool false) W
def RnX (d ar : Int) (w : World) (c : Code) (pre : List (Tx maxLen)) (W : World) : Prop := c = .ret ∧ (pre.map (·.1)).all (okName d) = false ∧ RnJ d ar w (.bool false) W
theorem all_prefix_false {α : Type} {p l : List α} {f : α → Bool} (h : p <+: l) (hp : p.all f = false) : l.all f = false := by
  obtain ⟨t, rfl⟩ := h
  rw [List.all_append, hp, Bool.false_and]
set_option maxRecDepth 100000 in
set_option maxHeartbeats 4000000 in
theorem rname_any (d ar : Int) (s : ByteArray) (w : World) (hs : s.size ≤ maxLen) : Calls Tryz.prog 173 #[.agg #[.int .i64 d, .int .i64 ar], .string s] w fun e w' => e = .returned (.bool (okR d s)) ∧ Below w.heap.size w w' := by
  cases hd : d == 1 with
  | false =>
    have HO := Lib.hid (show okR d s = okName d s by unfold okR; rw [hd]; rfl)
    have hd1 : (d != 1) = true := by simpa using hd
    have B0 := Lib.hid (((Below.refl w.heap.size w).alloc (Nat.le_refl _) (.cells #[.int .i64 d, .int .i64 ar] 140)).alloc (by simp) (.cells #[.bool false] 4))
    have BX := Lib.hid (show Boxed ((w.alloc (.cells #[.int .i64 d, .int .i64 ar] 140)).alloc (.cells #[.bool false] 4)) (w.heap.size + 1) 4 (.bool false) by
      have := Boxed.new (w.alloc (.cells #[.int .i64 d, .int .i64 ar] 140)) 4 (.bool false)
      simpa using this)
    go_enter Tryz.func173, Tryz.ntmps173
    go_wp2_with fail
    refine (cname_any d ar s _ hs).mono ?_
    rintro e w1 ⟨rfl, b1⟩
    have hbx : Boxed w1 (w.heap.size + 1) 4 (.bool false) := (b1.block _ (by simp)).trans BX.out
    have hc := hbx.cell
    have hf := hbx.frozen
    have HB := Lib.hid hbx
    have B1 := Lib.hid (B0.out.trans (b1.mono (by simp; omega)))
    clear b1 hbx
    generalize hr : okName d s = r
    rw [hr] at HO
    go_wp2_with fail
    refine bodyPost_ret (v := .bool r) ?_ rfl ?_
    · exact results_cell1 (i := 4) (b := w.heap.size + 1) Tryz.results173 Tryz.isAgg4 rfl (HB.out.set _).cell
    · have hg := grownBy_setCell' w1 (w.heap.size + 1) (.bool r)
      have ne : ∀ b, b < w.heap.size → some b ≠ some (w.heap.size + 1) := fun b hb e => by
        injection e with e
        omega
      exact ⟨by rw [HO.out], ⟨hg.os.trans B1.out.os, hg.tape.trans B1.out.tape, hg.output.trans B1.out.output, Nat.le_trans B1.out.size hg.size, fun b hb => (hg.block b (Nat.lt_of_lt_of_le hb B1.out.size) (ne b hb)).trans (B1.out.block b hb)⟩⟩
  | true =>
    have hd1 : (d != 1) = false := by simpa using hd
    have HO := Lib.hid (show okR d s = (parts s).all (okName d) by unfold okR; rw [hd]; rfl)
    obtain ⟨W0, hW0⟩ : ∃ W0, W0 = ((w.alloc (.cells #[.int .i64 d, .int .i64 ar] 140)).alloc (.cells #[.bool false] 4)).alloc (.cells #[.string s] 9) := ⟨_, rfl⟩
    have z1 : (w.alloc (.cells #[.int .i64 d, .int .i64 ar] 140)).heap.size = w.heap.size + 1 := by simp
    have z2 : ((w.alloc (.cells #[.int .i64 d, .int .i64 ar] 140)).alloc (.cells #[.bool false] 4)).heap.size = w.heap.size + 2 := by simp
    have b0 : Below w.heap.size w W0 := by rw [hW0]; exact (((Below.refl _ w).alloc (Nat.le_refl _) _).alloc (by simp) _).alloc (by simp; omega) _
    have q0 : W0.heap.size = w.heap.size + 3 := by rw [hW0]; simp
    have bC : W0.heap[w.heap.size]? = some (.cells #[.int .i64 d, .int .i64 ar] 140 (0, 0)) := by
      have e1 := heap_new w (.cells #[.int .i64 d, .int .i64 ar] 140)
      have e2 := ((Below.refl (w.heap.size + 1) (w.alloc (.cells #[.int .i64 d, .int .i64 ar] 140))).alloc (by simp) (.cells #[.bool false] 4)).alloc (by simp) (.cells #[.string s] 9)
      rw [hW0]
      exact (e2.block _ (by omega)).trans e1
    have bR : Boxed W0 (w.heap.size + 1) 4 (.bool false) := by
      have := (Boxed.new (w.alloc (.cells #[.int .i64 d, .int .i64 ar] 140)) 4 (.bool false)).alloc (.cells #[.string s] 9)
      rw [z1] at this
      rw [hW0]
      exact this
    have bS : Boxed W0 (w.heap.size + 2) 9 (.string s) := by
      have := Boxed.new ((w.alloc (.cells #[.int .i64 d, .int .i64 ar] 140)).alloc (.cells #[.bool false] 4)) 9 (.string s)
      rw [z2] at this
      rw [hW0]
      exact this
    have HJ0 := Lib.hid (show RnI d ar w [] W0 from ⟨rfl, bC, bR, b0, by omega⟩)
    clear bC bR b0 z1 z2
    refine (callsIn_wide (n := 3)).1 ?_
    refine callsIn_of_wp_marks Tryz.func173 rfl trivial ?_ rfl
    simp only [Tryz.ntmps173, List.size_toArray, List.length_cons, List.length_nil, Nat.reduceAdd, Nat.reduceSub, Array.replicate_succ, Array.replicate_zero, List.push_toArray, List.append_toArray, List.nil_append, List.cons_append]
    gi_wp2_with (refine ⟨trivial, ?_⟩; gi_at_call 196; refine (callsIn_wide.2 (partsF_any s _)).mono ?_; rintro e w' ⟨rfl, rfl⟩)
    rw [← hW0]
    refine wpIn_rangeFunc_ownG rfl (by omega) (gf := 210) (lb := #[.pointer (some ⟨w.heap.size + 2, 0, none⟩)]) rfl trivial (enters_of Tryz.func210 (by kernel_rfl) rfl)
      (parts_stops maxLen (Nat.le_refl _) _ (by omega) (w.heap.size + 2) s hs (fun _ _ => True) W0 bS.cell) (fun _ _ => trivial) (fun _ _ _ _ _ _ _ _ => trivial) (Below.refl _ _) (fun _ => rfl)
      (RnI d ar w)
      (RnX d ar w)
      (fun (pre : List (Tx maxLen)) A B row hsx hg hr => ⟨hsx.1, hsx.2.same hg fun r e => by have := (hr r e).1; omega⟩)
      (fun c (pre : List (Tx maxLen)) A B row hsx hg hr => ⟨hsx.1, hsx.2.1, hsx.2.2.same hg fun r e => by have := (hr r e).1; omega⟩)
      HJ0.out
      (fun x => { tmps := #[.agg #[.int .i64 d, .int .i64 ar], .string s, .pointer (some ⟨w.heap.size, 0, none⟩), undef, .pointer (some ⟨w.heap.size + 1, 0, none⟩), .string x.1, .pointer (some ⟨w.heap.size, 0, none⟩), .int .i64 d, .bool false, undef, undef, undef, .string s, .func (.func 210) #[] #[.pointer (some ⟨w.heap.size + 2, 0, none⟩)], .string x.1, undef, undef, undef, undef], defers := [] }) ?assign ?body ?done ?stop
    case assign =>
      intro l x W K hK
      gi_wp2
      exact hK
    case body =>
      rintro l pre x W ⟨hpl, hJ⟩ hlt
      have c0 := box_cells hJ.bc
      have hcn := Lib.hid (cname_any d ar x.1 W x.2)
      have HJ := Lib.hid hJ
      have HP := Lib.hid hpl
      have LC := Lib.hid (show ∀ j v, ([.int .i64 d, .int .i64 ar] : List Value)[j]? = some v → W.cell? ⟨w.heap.size, 0 + j, none⟩ = some v from fun j v hv => by rw [c0, Nat.zero_add]; simpa using hv)
      clear hJ hpl
      cases hx : okName d x.1 with
      | true =>
        rw [hx] at hcn
        have HA := Lib.hid (show ((pre ++ [x]).map (·.1)).all (okName d) = true by rw [List.map_append, List.all_append, HP.out]; simpa using hx)
        clear hx
        gi_wp2_with (refine ⟨trivial, ?_⟩; gi_at_call 176; refine (CallsIn.inRound l (callsIn_wide.2 hcn.out)).mono ?_; rintro e W2 ⟨rfl, b2⟩; have HJ2 := Lib.hid (HJ.out.below b2); have hc2 := HJ2.out.br.cell; have hf2 := HJ2.out.br.frozen; have KF := Lib.hid (show KeepsFrom W0.heap.size W W2 from ⟨b2.size, fun k o _ hk _ => (b2.block k (heap_lt hk)).trans hk⟩); clear b2)
        exact ⟨KF.out, trivial, HA.out, HJ2.out⟩
      | false =>
        rw [hx] at hcn
        have HA := Lib.hid (show ((pre ++ [x]).map (·.1)).all (okName d) = false by rw [List.map_append, List.all_append]; simp [hx])
        clear hx
        gi_wp2_with (refine ⟨trivial, ?_⟩; gi_at_call 176; refine (CallsIn.inRound l (callsIn_wide.2 hcn.out)).mono ?_; rintro e W2 ⟨rfl, b2⟩; have HJ2 := Lib.hid (HJ.out.below b2); have hc2 := HJ2.out.br.cell; have hf2 := HJ2.out.br.frozen; have KF := Lib.hid (show KeepsFrom W0.heap.size W W2 from ⟨b2.size, fun k o _ hk _ => (b2.block k (heap_lt hk)).trans hk⟩); clear b2)
        exact ⟨KF.out.trans (KeepsFrom.of_grownBy (grownBy_setCell' W2 (w.heap.size + 1) (.bool false)) (fun j e => by injection e with e; omega)), rfl, HA.out, HJ2.out.set _⟩
    case done =>
      rintro D xs W hD hxs ⟨hpl, hJ⟩ hK
      have HN := Lib.hid (show (parts s).all (okName d) = true by rw [← hxs]; exact hpl)
      have hc := hJ.br.cell
      have hf := hJ.br.frozen
      have HJ1 := Lib.hid (hJ.set (.bool true))
      have HK1 := Lib.hid (show (W.setCell ⟨w.heap.size + 1, 0, none⟩ (.bool true)).heap[D]? = some (.deferred (some [])) from ((grownBy_setCell' W (w.heap.size + 1) (.bool true)).block D (heap_lt hK) (fun e => by injection e with e; omega)).trans hK)
      clear hJ hK hpl hxs
      gi_wp2
      have HJ2 := Lib.hid (RnJ.same HJ1.out (grownBy_putObj' _ D (.deferred none)) (fun b e => by injection e with e; omega))
      refine ⟨by simp, .inl ⟨_, _, rfl, run_takeDeferred HK1.out, ?_⟩⟩
      refine ⟨_, results_cell1 (i := 4) (b := w.heap.size + 1) Tryz.results173 Tryz.isAgg4 rfl HJ2.out.br.cell, ?_⟩
      exact ⟨by rw [HO.out, HN.out], HJ2.out.bel⟩
    case stop =>
      rintro D c pre W hD hSp ⟨rfl, hn, hJ⟩ hK
      have HN := Lib.hid (show (parts s).all (okName d) = false from all_prefix_false hSp hn)
      have HJ1 := Lib.hid hJ
      have HK1 := Lib.hid hK
      clear hJ hK hn hSp
      gi_wp2
      have HJ2 := Lib.hid (RnJ.same HJ1.out (grownBy_putObj' _ D (.deferred none)) (fun b e => by injection e with e; omega))
      refine ⟨by simp, .inl ⟨_, _, rfl, run_takeDeferred HK1.out, ?_⟩⟩
      refine ⟨_, results_cell1 (i := 4) (b := w.heap.size + 1) Tryz.results173 Tryz.isAgg4 rfl HJ2.out.br.cell, ?_⟩
      exact ⟨by rw [HO.out, HN.out], HJ2.out.bel⟩
end Go.Proofs.YtpcldpnaljheoaaGreatDoor
end
section
namespace Go.Proofs.YtpcldpnaljheoaaGreatDoor
open Go.RowKit Go.Deep
set_option maxRecDepth 100000 in
set_option maxHeartbeats 1000000 in
theorem allE_any (w0 : World) (g : Nat) (c : Value) (f : List D → Bool) (a : Option Addr) (len cap : Nat) (l : List (List D)) (hA : At w0 (.slice a len cap) (.row l)) (hs : ∀ x ∈ l, ShE x) (hf : OkFn w0 g c l f) (eg : ∀ args w, (callFunc g args).run Tryz.prog w = .ok (.enter g args) w) (W : World) (hW : Below w0.heap.size w0 W) :
    Calls Tryz.prog 143 #[.slice a len cap, .func (.func g) #[c] #[]] W fun e W' => e = .returned (.bool (okAll l f)) ∧ Below W.heap.size W W' := by
  have HA := Lib.hid hA
  have HS := Lib.hid hs
  have HF := Lib.hid hf
  have HW := Lib.hid hW
  have hle := hA.len_le
  have HL := Lib.hid hA.len_eq.1
  clear hA hs hf hW
  by_cases hbig : 512 < len
  · have hd : decide ((512 : Int) < (len : Int)) = true := by simp; omega
    have HO := Lib.hid (okAll_long (f := f) (show 512 < l.length by rw [HL.out]; exact hbig))
    go_enter Tryz.func143, Tryz.ntmps143
    go_wp2_with fail
    go_ret
    exact ⟨by rw [HO.out]; rfl, Below.refl _ _⟩
  · have hd : decide ((512 : Int) < (len : Int)) = false := by simp; omega
    go_enter Tryz.func143, Tryz.ntmps143
    go_wp2_with fail
    go_loopw [12] (fun i wr => ∃ k : Nat, k ≤ len ∧ i = .int .i64 k ∧ (l.take k).all f = true ∧ Below W.heap.size W wr) (fun i _ => len - (intOf i).toNat)
    case atStart => exact ⟨0, Nat.zero_le _, rfl, rfl, Below.refl _ _⟩
    case round =>
      obtain ⟨k, hk, rfl, ht, hb⟩ := hrel
      have HT := Lib.hid ht
      have HB := Lib.hid hb
      clear ht hb
      by_cases hlt : k < len
      · obtain ⟨b, o, vs, ds, rfl, hbl, hx, hv, hc⟩ := HA.out.elem hlt
        have hfn := HF.out ds (List.mem_of_getElem? hx) vs hv
        have hdl : ds.length = 5 := (HS.out _ (List.mem_of_getElem? hx)).ln
        rw [hdl] at hc
        have hvl := Lib.hid (hv.len.trans hdl)
        have hvo := Lib.hid hv.one
        clear hdl hv
        have B0 := HW.out.trans (HB.out.mono HW.out.size)
        have hbw : b < wr.heap.size := Nat.lt_of_lt_of_le hbl B0.size
        have C0 := Lib.hid (show ∀ j v, vs[j]? = some v → wr.cell? ⟨b, o + k * 5 + j, none⟩ = some v from fun j v hv => (B0.cell (p := ⟨b, o + k * 5 + j, none⟩) hbl).trans (hc j v hv))
        have N1 := (Below.refl wr.heap.size wr).alloc (Nat.le_refl _) (.cells ⟨vs⟩ 25)
        have C2 := Lib.hid (show ∀ j v, vs[j]? = some v → (wr.alloc (.cells ⟨vs⟩ 25)).cell? ⟨wr.heap.size, 0 + j, none⟩ = some v from fun j v hv => by
          rw [box_cells (heap_new wr (.cells ⟨vs⟩ 25))]
          simpa using hv)
        have FN := Lib.hid (hfn _ (B0.trans (N1.mono B0.size)))
        have HR := Lib.hid (HB.out.trans (N1.mono HB.out.size))
        have HX := Lib.hid hx
        clear hfn hx B0 hc N1
        go_wp2_with (first
          | ((with_reducible refine wp_loadAgg (o := ⟨some 15, _, _, _, _, _⟩) rfl (.tmp 14) 25 rfl 5 Tryz.isAgg25 Tryz.sizeOf25 b (o + k * 5) ?_ vs hvl.out C0.out ?_); rfl)
          | ((with_reducible refine wp_storeNew (o := ⟨none, .store 25 (.tmp 6) (.tmp 15), _, _, _, _⟩) rfl (.tmp 6) (.tmp 15) 25 rfl 5 Tryz.sizeOf25 _ ?_ ?_ vs ?_ hvl.out hvo.out ?_); rfl; rfl; rfl)
          | ((with_reducible refine wp_loadAgg (o := ⟨some 17, _, _, _, _, _⟩) rfl (.tmp 6) 25 rfl 5 Tryz.isAgg25 Tryz.sizeOf25 wr.heap.size 0 ?_ vs hvl.out C2.out ?_); rfl))
        refine FN.out.mono ?_
        rintro e w3 ⟨rfl, b3⟩
        have HB4 := Lib.hid (HR.out.trans (b3.mono HR.out.size))
        clear b3
        cases hsm : f ds with
        | true =>
          have HE := Lib.hid (all_take_succ HX.out HT.out hsm)
          clear hsm
          go_wp2_with fail
          go_roundw
          case rel => exact ⟨k + 1, by omega, by go_num, HE.out, HB4.out⟩
          case measure => simp [intOf]; omega
        | false =>
          have HE := Lib.hid (okAll_bad HX.out hsm)
          clear hsm
          go_wp2_with fail
          go_ret
          exact ⟨by rw [HE.out]; rfl, HB4.out⟩
      · obtain rfl : k = len := by omega
        have HE := Lib.hid (okAll_good (l := l) (f := f) (by rw [HL.out]; omega) (by rw [HL.out]; exact HT.out))
        go_wp2_with fail
        go_ret
        exact ⟨by rw [HE.out]; rfl, HB.out⟩
end Go.Proofs.YtpcldpnaljheoaaGreatDoor
end
