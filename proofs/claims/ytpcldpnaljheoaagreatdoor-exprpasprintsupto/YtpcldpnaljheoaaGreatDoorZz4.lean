/-
  Texts of this proof, put together.
-/
import Derived.WalkKit
import Derived.Deep.Draws
import Derived.Lib.Strings
import Derived.Lib.ItoaNum
import Derived.Test.YtpcldpnaljheoaaGreatDoorRows
import Derived.WalkSpells
import Derived.WalkLawsBesides
import Derived.BigQuiet
import Derived.Deep.QuietTactic
import Derived.Lib.Hide
import Derived.IntWalk
import Derived.Lib.AppendIntMem
import Derived.Lib.Case
import Derived.Lib.Join
import Derived.Deep.MidRow
import Derived.OwnWalk
import Derived.Maps.AppendAt
import Derived.Lib.QuietBelow
import Derived.Test.YtpcldpnaljheoaaGreatDoorZz1
import Derived.Lib.OthersKept
import Derived.Laws.AppendOwn
import Derived.Laws.BytesArg
import Derived.Deep.RegionHeld3
section
namespace Go.Proofs.YtpcldpnaljheoaaGreatDoor.X
open Go.RowKit

def bt (s : ByteArray) (k : Nat) : UInt8 := s.data.toList.getD k 0
theorem bt_eq (s : ByteArray) (k : Nat) (h : k < s.size) : s[k] = bt s k := by
  unfold bt
  rw [List.getD_eq_getElem?_getD, List.getElem?_eq_getElem (by simpa using h)]; rfl
def step (p : Nat × Nat) (c : UInt8) : Nat × Nat := if c.toNat = 10 then (p.1 + 1, 0) else (p.1, p.2 + 1)
def lc (l : List UInt8) : Nat × Nat := l.foldl step (0, 0)
def lineOf (s : ByteArray) (k : Nat) : Nat := (lc (s.data.toList.take k)).1
def colOf (s : ByteArray) (k : Nat) : Nat := (lc (s.data.toList.take k)).2
theorem lc_snoc (l : List UInt8) (c : UInt8) : lc (l ++ [c]) = step (lc l) c := by simp [lc]
theorem take_bt (s : ByteArray) (k : Nat) (h : k < s.size) : s.data.toList.take (k + 1) = s.data.toList.take k ++ [bt s k] := by
  rw [List.take_succ_eq_append_getElem (by simpa using h), ← bt_eq s k h]; rfl
theorem lc_bt (s : ByteArray) (k : Nat) (h : k < s.size) : lc (s.data.toList.take (k + 1)) = step (lc (s.data.toList.take k)) (bt s k) := by
  rw [take_bt s k h, lc_snoc]
theorem line_nl (s : ByteArray) (k : Nat) (h : k < s.size) (hc : (bt s k).toNat = 10) : lineOf s (k + 1) = lineOf s k + 1 := by
  unfold lineOf; rw [lc_bt s k h]; simp [step, hc]
theorem col_nl (s : ByteArray) (k : Nat) (h : k < s.size) (hc : (bt s k).toNat = 10) : colOf s (k + 1) = 0 := by
  unfold colOf; rw [lc_bt s k h]; simp [step, hc]
theorem line_no (s : ByteArray) (k : Nat) (h : k < s.size) (hc : (bt s k).toNat ≠ 10) : lineOf s (k + 1) = lineOf s k := by
  unfold lineOf; rw [lc_bt s k h]; simp [step, hc]
theorem col_no (s : ByteArray) (k : Nat) (h : k < s.size) (hc : (bt s k).toNat ≠ 10) : colOf s (k + 1) = colOf s k + 1 := by
  unfold colOf; rw [lc_bt s k h]; simp [step, hc]
theorem line_zero (s : ByteArray) : lineOf s 0 = 0 := by simp [lineOf, lc]
theorem col_zero (s : ByteArray) : colOf s 0 = 0 := by simp [colOf, lc]
theorem lc_bd (l : List UInt8) : (lc l).1 ≤ l.length ∧ (lc l).2 ≤ l.length := by
  have h : ∀ (l : List UInt8) (p : Nat × Nat), (l.foldl step p).1 ≤ p.1 + l.length ∧ (l.foldl step p).2 ≤ p.2 + l.length := by
    intro l
    induction l with
    | nil => intro p; simp
    | cons c r ih =>
      intro p
      have := ih (step p c)
      have hs : (step p c).1 ≤ p.1 + 1 ∧ (step p c).2 ≤ p.2 + 1 := by unfold step; split <;> simp
      simp only [List.foldl_cons, List.length_cons]
      omega
  have := h l (0, 0)
  simpa [lc] using this
theorem line_le (s : ByteArray) (k : Nat) : lineOf s k ≤ k := by
  have := (lc_bd (s.data.toList.take k)).1
  have hl : (s.data.toList.take k).length ≤ k := List.length_take_le _ _
  unfold lineOf; omega
theorem col_le (s : ByteArray) (k : Nat) : colOf s k ≤ k := by
  have := (lc_bd (s.data.toList.take k)).2
  have hl : (s.data.toList.take k).length ≤ k := List.length_take_le _ _
  unfold colOf; omega

/-- No block but b has turned (new ones may have come). -/
structure Only (b : Nat) (w w' : World) : Prop where
  os : w'.os = w.os
  tape : w'.tape = w.tape
  output : w'.output = w.output
  size : w.heap.size ≤ w'.heap.size
  block : ∀ k, k ≠ b → k < w.heap.size → w'.heap[k]? = w.heap[k]?
theorem Only.refl (b : Nat) (w : World) : Only b w w := ⟨rfl, rfl, rfl, Nat.le_refl _, fun _ _ _ => rfl⟩
theorem Only.trans {b : Nat} {a c d : World} (h : Only b a c) (k : Only b c d) : Only b a d :=
  ⟨k.os.trans h.os, k.tape.trans h.tape, k.output.trans h.output, Nat.le_trans h.size k.size, fun i hi hs => (k.block i hi (Nat.lt_of_lt_of_le hs h.size)).trans (h.block i hi hs)⟩
theorem Only.drewN {b : Nat} {a w : World} (h : Only b a w) (n : Nat) : Only b a (w.drewN n) := ⟨h.os, h.tape, h.output, h.size, h.block⟩
theorem Only.setCell {b : Nat} {a w : World} (h : Only b a w) {p : Addr} (hp : p.block = b) (u : Value) : Only b a (w.setCell p u) :=
  h.trans ⟨rfl, rfl, rfl, by simp [World.setCell], fun k hk _ => Below.heap_setCell _ _ _ _ (by omega)⟩
theorem Only.below {b B : Nat} {a w : World} (h : Only b a w) (hb : B ≤ b) (hB : B ≤ a.heap.size) : Below B a w :=
  ⟨h.os, h.tape, h.output, h.size, fun k hk => h.block k (by omega) (by omega)⟩
theorem Only.ofBelow {b B : Nat} {a w : World} (h : Below B a w) (hB : a.heap.size ≤ B) : Only b a w :=
  ⟨h.os, h.tape, h.output, h.size, fun k _ hs => h.block k (by omega)⟩
theorem heap_set {w : World} {b o : Nat} {c : Array Value} {t : TypeId} {f : Nat × Nat} (h : w.heap[b]? = some (.cells c t f)) (v : Value) :
    (w.setCell ⟨b, o, none⟩ v).heap[b]? = some (.cells (c.setIfInBounds o v) t f) := by
  simp [World.setCell, Array.getElem?_modify, h]
theorem heap_lt {w : World} {b : Nat} {o : Obj} (h : w.heap[b]? = some o) : b < w.heap.size := by
  rcases Nat.lt_or_ge b w.heap.size with g | g
  · exact g
  · rw [Array.getElem?_eq_none g] at h; cases h
theorem heap_new (w : World) (o : Obj) : (w.alloc o).heap[w.heap.size]? = some o := by
  show (w.heap.push o)[w.heap.size]? = _
  simp

/-- The block b is a cursor of s that stands at k. -/
structure CurAt (w : World) (b : Nat) (s : ByteArray) (k : Nat) : Prop where
  le : k ≤ s.size
  blk : w.heap[b]? = some (.cells #[.string s, .int .i64 (k : Nat), .int .i64 (lineOf s k : Nat), .int .i64 (colOf s k : Nat)] 159)
theorem CurAt.lt {w : World} {b : Nat} {s : ByteArray} {k : Nat} (h : CurAt w b s k) : b < w.heap.size := heap_lt h.blk
theorem CurAt.c0 {w : World} {b : Nat} {s : ByteArray} {k : Nat} (h : CurAt w b s k) : w.cell? ⟨b, 0, none⟩ = some (.string s) := by simp [World.cell?, h.blk]
theorem CurAt.c1 {w : World} {b : Nat} {s : ByteArray} {k : Nat} (h : CurAt w b s k) : w.cell? ⟨b, 1, none⟩ = some (.int .i64 (k : Nat)) := by simp [World.cell?, h.blk]
theorem CurAt.c2 {w : World} {b : Nat} {s : ByteArray} {k : Nat} (h : CurAt w b s k) : w.cell? ⟨b, 2, none⟩ = some (.int .i64 (lineOf s k : Nat)) := by simp [World.cell?, h.blk]
theorem CurAt.c3 {w : World} {b : Nat} {s : ByteArray} {k : Nat} (h : CurAt w b s k) : w.cell? ⟨b, 3, none⟩ = some (.int .i64 (colOf s k : Nat)) := by simp [World.cell?, h.blk]
theorem CurAt.fz {w : World} {b : Nat} {s : ByteArray} {k : Nat} (h : CurAt w b s k) (o : Nat) : w.frozen? ⟨b, o, none⟩ = false := by simp [World.frozen?, h.blk]
theorem CurAt.stays {w w' : World} {b : Nat} {s : ByteArray} {k : Nat} (h : CurAt w b s k) (e : w'.heap[b]? = w.heap[b]?) : CurAt w' b s k := ⟨h.le, e.trans h.blk⟩
theorem CurAt.drewN {w : World} {b : Nat} {s : ByteArray} {k : Nat} (h : CurAt w b s k) (n : Nat) : CurAt (w.drewN n) b s k := ⟨h.le, h.blk⟩
theorem CurAt.new (w : World) (s : ByteArray) : CurAt (w.alloc (.cells #[.string s, .int .i64 0, .int .i64 0, .int .i64 0] 159)) w.heap.size s 0 :=
  ⟨Nat.zero_le _, by rw [heap_new, line_zero, col_zero]; rfl⟩
end Go.Proofs.YtpcldpnaljheoaaGreatDoor.X
end
section
namespace Go.Proofs.YtpcldpnaljheoaaGreatDoor.X
open Go.RowKit

theorem drop_bt (s : ByteArray) (k : Nat) (h : k < s.size) : s.data.toList.drop k = bt s k :: s.data.toList.drop (k + 1) := by
  rw [List.drop_eq_getElem_cons (by simpa using h), ← bt_eq s k h]; rfl
theorem drop_end (s : ByteArray) (k : Nat) (h : ¬ k < s.size) : s.data.toList.drop k = [] := by
  apply List.drop_eq_nil_of_le; simp; omega
theorem len_size (s : ByteArray) : s.data.toList.length = s.size := by simp

/-- May a text have it? (of a rune) -/
def okZ (r : Int) : Bool := r == 9 || r == 10 || (decide (32 ≤ r) && decide (r ≤ 126))
def okB (c : UInt8) : Bool := okZ c.toNat
def opL (d : Int) : List UInt8 := if d = 0 then [123] else [47, 42]
def clL (d : Int) : List UInt8 := if d = 0 then [125] else [42, 47]
def cl0 (d : Int) : UInt8 := if d = 0 then 125 else 42
def opA (d : Int) : ByteArray := ⟨(opL d).toArray⟩
def clA (d : Int) : ByteArray := ⟨(clL d).toArray⟩
theorem opA_l (d : Int) : (opA d).data.toList = opL d := rfl
theorem clA_l (d : Int) : (clA d).data.toList = clL d := rfl
theorem opA_0 : opA 0 = ⟨#[123]⟩ := rfl
theorem opA_1 : opA 1 = ⟨#[47, 42]⟩ := rfl
theorem clA_0 : clA 0 = ⟨#[125]⟩ := rfl
theorem clA_1 : clA 1 = ⟨#[42, 47]⟩ := rfl
/-- Does the closing begin here? -/
def clos (d : Int) (l : List UInt8) : Bool := Lib.hasPrefix l (clL d)
def begs (d : Int) (l : List UInt8) : Bool := Lib.hasPrefix l (opL d)
def rd (d : Int) : List UInt8 → Bool → List UInt8 → Nat → List UInt8 × Nat × Nat
  | [], _, _, _ => ([], 0, 8)
  | c :: r, true, acc, u => if (c == 92 || c == cl0 d) = true then (if acc.length = 1024 then ([], 0, 3) else rd d r false (acc ++ [c]) (u + 1)) else ([], 0, 8)
  | c :: r, false, acc, u =>
    if clos d (c :: r) = true then (acc, u + (clL d).length, 0)
    else if (c == 92) = true then rd d r true acc (u + 1)
    else if okB c = false then ([], 0, 8)
    else if acc.length = 1024 then ([], 0, 3)
    else rd d r false (acc ++ [c]) (u + 1)
def Dia (d : Int) : Prop := d = 0 ∨ d = 1
def diaB (d : Int) : Bool := d == 0 || d == 1
theorem Dia.b {d : Int} (h : Dia d) : diaB d = true := by rcases h with rfl | rfl <;> rfl
theorem not_dia {d : Int} (h : ¬ Dia d) : diaB d = false := by
  unfold diaB; unfold Dia at h; simp; omega
def readL (d : Int) (l : List UInt8) : List UInt8 × Nat × Nat :=
  if diaB d = false then ([], 0, 1) else if begs d l = false then ([], 0, 8) else rd d (l.drop (opL d).length) false [] (opL d).length
def begL (d : Int) (l : List UInt8) : Bool := diaB d && begs d l
theorem hp_cons (x c : UInt8) (xs r : List UInt8) : Lib.hasPrefix (c :: r) (x :: xs) = (x == c && Lib.hasPrefix r xs) := rfl
theorem hp_nil (r : List UInt8) : Lib.hasPrefix r [] = true := rfl
theorem clos0 (c : UInt8) (r : List UInt8) : clos 0 (c :: r) = (125 == c) := by simp [clos, hp_cons, hp_nil, clL]
theorem clos1 (c : UInt8) (r : List UInt8) : clos 1 (c :: r) = (42 == c && Lib.hasPrefix r [47]) := by simp [clos, hp_cons, clL]
end Go.Proofs.YtpcldpnaljheoaaGreatDoor.X
end
section
namespace Go.Proofs.YtpcldpnaljheoaaGreatDoor.X
open Go.RowKit

/-- Is a text one of some? -/
def isIn (x : ByteArray) (l : List ByteArray) : Bool := l.any fun y => y.toList == x.toList
theorem beq_iff (x y : ByteArray) : (x.toList == y.toList) = true ↔ x = y := by
  rw [beq_iff_eq, ByteArray.toList_eq, ByteArray.toList_eq]
  exact ⟨fun h => ByteArray.ext (Array.ext' h), fun h => by rw [h]⟩
theorem beq_false (x y : ByteArray) : (x.toList == y.toList) = false ↔ x ≠ y := by
  rw [← Bool.not_eq_true, ne_eq, beq_iff]
theorem isIn_iff (x : ByteArray) (l : List ByteArray) : isIn x l = true ↔ x ∈ l := by
  unfold isIn
  rw [List.any_eq_true]
  exact ⟨fun ⟨y, hy, h⟩ => by rw [← (beq_iff y x).1 h]; exact hy, fun h => ⟨x, h, (beq_iff x x).2 rfl⟩⟩
def pasW : List ByteArray := [⟨#[97, 110, 100]⟩, ⟨#[97, 114, 114, 97, 121]⟩, ⟨#[98, 101, 103, 105, 110]⟩, ⟨#[98, 111, 111, 108, 101, 97, 110]⟩, ⟨#[99, 104, 97, 114]⟩, ⟨#[100, 105, 118]⟩, ⟨#[100, 111]⟩, ⟨#[100, 111, 119, 110, 116, 111]⟩, ⟨#[101, 108, 115, 101]⟩, ⟨#[101, 110, 100]⟩, ⟨#[102, 97, 108, 115, 101]⟩, ⟨#[102, 111, 114]⟩, ⟨#[102, 111, 114, 119, 97, 114, 100]⟩, ⟨#[102, 117, 110, 99, 116, 105, 111, 110]⟩, ⟨#[105, 102]⟩, ⟨#[105, 110, 116, 101, 103, 101, 114]⟩, ⟨#[109, 111, 100]⟩, ⟨#[110, 111, 116]⟩, ⟨#[111, 102]⟩, ⟨#[111, 114]⟩, ⟨#[112, 114, 111, 99, 101, 100, 117, 114, 101]⟩, ⟨#[112, 114, 111, 103, 114, 97, 109]⟩, ⟨#[114, 101, 97, 100]⟩, ⟨#[114, 101, 99, 111, 114, 100]⟩, ⟨#[114, 101, 112, 101, 97, 116]⟩, ⟨#[114, 101, 116, 117, 114, 110]⟩, ⟨#[116, 104, 101, 110]⟩, ⟨#[116, 111]⟩, ⟨#[116, 114, 117, 101]⟩, ⟨#[116, 121, 112, 101]⟩, ⟨#[117, 110, 116, 105, 108]⟩, ⟨#[118, 97, 114]⟩, ⟨#[119, 104, 105, 108, 101]⟩, ⟨#[119, 114, 105, 116, 101]⟩]
def ceeW : List ByteArray := [⟨#[98, 111, 111, 108]⟩, ⟨#[99, 104, 97, 114]⟩, ⟨#[100, 111]⟩, ⟨#[100, 111, 119, 110, 116, 111]⟩, ⟨#[101, 108, 115, 101]⟩, ⟨#[102, 97, 108, 115, 101]⟩, ⟨#[102, 111, 114]⟩, ⟨#[103, 101, 116]⟩, ⟨#[105, 102]⟩, ⟨#[105, 110, 116]⟩, ⟨#[109, 97, 105, 110]⟩, ⟨#[112, 114, 111, 103, 114, 97, 109]⟩, ⟨#[112, 117, 116]⟩, ⟨#[114, 101, 116, 117, 114, 110]⟩, ⟨#[115, 116, 114, 117, 99, 116]⟩, ⟨#[116, 111]⟩, ⟨#[116, 114, 117, 101]⟩, ⟨#[117, 110, 116, 105, 108]⟩, ⟨#[117, 112]⟩, ⟨#[118, 111, 105, 100]⟩, ⟨#[119, 104, 105, 108, 101]⟩]
/-- The words of a dialect. -/
def wordsOf (d : Int) : List ByteArray := if d = 0 then pasW else if d = 1 then ceeW else []
theorem wordsOf_no (d : Int) (h0 : d ≠ 0) (h1 : d ≠ 1) : wordsOf d = [] := by unfold wordsOf; rw [if_neg h0, if_neg h1]
theorem pas_len : pasW.length = 34 := rfl
theorem cee_len : ceeW.length = 21 := rfl
theorem pas_small : ∀ x ∈ pasW, x.size ≤ 9 := by decide
theorem cee_small : ∀ x ∈ ceeW, x.size ≤ 9 := by decide
theorem words_small (d : Int) : ∀ x ∈ wordsOf d, x.size ≤ 9 := by
  unfold wordsOf; split
  · exact pas_small
  · split
    · exact cee_small
    · simp
/-- What Fresh must not tell. -/
def used (taken : List ByteArray) : List ByteArray := taken ++ (wordsOf 0 ++ wordsOf 1)
theorem take_snoc {names : List ByteArray} {k : Nat} {x : ByteArray} (h : names[k]? = some x) : names.take (k + 1) = names.take k ++ [x] := by
  rw [List.take_add_one, h]; rfl
end Go.Proofs.YtpcldpnaljheoaaGreatDoor.X
end
section
namespace Go.Proofs.YtpcldpnaljheoaaGreatDoor.X
open Go.RowKit

def Dig (s : ByteArray) (j : Nat) : Prop := 48 ≤ (bt s j).toNat ∧ (bt s j).toNat ≤ 57
def AD (s : ByteArray) : Prop := 0 < s.size ∧ ∀ j, j < s.size → Dig s j
theorem ba_empty (s : ByteArray) (h : s.size = 0) : s = ⟨#[]⟩ := by
  cases s with
  | mk d => congr; exact Array.eq_empty_of_size_eq_zero h

theorem toList_ne (s : ByteArray) (h : 0 < s.size) : ¬ s.toList = [] := by
  rw [ByteArray.toList_eq]
  intro e
  have : s.data.toList.length = s.size := by simp
  rw [e] at this
  simp at this
  omega

set_option maxHeartbeats 400000 in
theorem allDigits_yes (s : ByteArray) (w : World) (hs : s.size ≤ maxLen) (h : AD s) :
    Calls Tryz.prog 165 #[.string s] w fun e w' => e = .returned (.bool true) ∧ w = w' := by
  have H := Lib.hid h
  clear h
  unfold maxLen at hs
  go_enter Tryz.func165, Tryz.ntmps165
  go_wp2
  go_loop [6] (fun i => ∃ k : Nat, k ≤ s.size ∧ i = .int .i64 k) (fun i => s.size - (intOf i).toNat)
  case atStart => exact ⟨0, Nat.zero_le _, rfl⟩
  case round =>
    obtain ⟨k, hk, rfl⟩ := hrel
    by_cases hlt : k < s.size
    · have hd := H.out.2 k hlt
      unfold Dig at hd
      rw [← bt_eq s k hlt] at hd
      obtain ⟨d1, d2⟩ := hd
      have d1' : (48 : Int) ≤ (s[k].toNat : Int) := by omega
      have d2' : (s[k].toNat : Int) ≤ 57 := by omega
      go_wp2
      go_round
      case rel => exact ⟨k + 1, by omega, by go_num⟩
      case measure => simp [intOf]; omega
    · have hpos := H.out.1
      have hne := toList_ne s hpos
      have hne' : (!s.toList.isEmpty) = true := by simp [hne]
      go_wp2
      go_ret
      exact ⟨rfl, rfl⟩

set_option maxHeartbeats 400000 in
theorem allDigits_empty (w : World) :
    Calls Tryz.prog 165 #[.string ⟨#[]⟩] w fun e w' => e = .returned (.bool false) ∧ w = w' := by
  go_enter Tryz.func165, Tryz.ntmps165
  go_wp2
  go_loop [6] (fun i => i = .int .i64 0) (fun _ => 0)
  case atStart => rfl
  case round =>
    obtain rfl := hrel
    go_wp2
    go_ret
    exact ⟨rfl, rfl⟩

set_option maxHeartbeats 400000 in
theorem allDigits_no (s : ByteArray) (w : World) (hs : s.size ≤ maxLen) (hz : 0 < s.size) (h : ¬ AD s) :
    Calls Tryz.prog 165 #[.string s] w fun e w' => e = .returned (.bool false) ∧ w = w' := by
  have H := Lib.hid h
  clear h
  unfold maxLen at hs
  go_enter Tryz.func165, Tryz.ntmps165
  go_wp2
  go_loop [6] (fun i => ∃ k : Nat, k ≤ s.size ∧ i = .int .i64 k ∧ ∀ j, j < k → Dig s j) (fun i => s.size - (intOf i).toNat)
  case atStart => exact ⟨0, Nat.zero_le _, rfl, fun j h => absurd h (Nat.not_lt_zero _)⟩
  case round =>
    obtain ⟨k, hk, rfl, hg⟩ := hrel
    have G := Lib.hid hg
    clear hg
    by_cases hlt : k < s.size
    · by_cases d1 : (s[k].toNat : Int) < 48
      · go_wp2
        go_ret
        exact ⟨rfl, rfl⟩
      · by_cases d2 : (57 : Int) < (s[k].toNat : Int)
        · go_wp2
          go_ret
          exact ⟨rfl, rfl⟩
        · go_wp2
          go_round
          case rel => exact ⟨k + 1, by omega, by go_num, fun j hj => by
            by_cases e : j = k
            · subst e; unfold Dig; rw [← bt_eq s j hlt]; omega
            · exact G.out j (by omega)⟩
          case measure => simp [intOf]; omega
    · exact absurd ⟨hz, fun j hj => G.out j (by omega)⟩ H.out

def valTo (s : ByteArray) : Nat → Nat
  | 0 => 0
  | k + 1 => valTo s k * 10 + ((bt s k).toNat - 48)
theorem valTo_le (s : ByteArray) (k : Nat) : valTo s k ≤ valTo s (k + 1) := by simp only [valTo]; omega
theorem valTo_mono (s : ByteArray) (j k : Nat) (h : j ≤ k) : valTo s j ≤ valTo s k := by
  induction k with
  | zero => have : j = 0 := by omega
            subst this; exact Nat.le_refl _
  | succ k ih =>
    by_cases e : j = k + 1
    · subst e; exact Nat.le_refl _
    · exact Nat.le_trans (ih (by omega)) (valTo_le s k)

theorem notAD_any (s : ByteArray) (w : World) (hs : s.size ≤ maxLen) (h : ¬ AD s) :
    Calls Tryz.prog 165 #[.string s] w fun e w' => e = .returned (.bool false) ∧ w = w' := by
  by_cases hz : 0 < s.size
  · exact allDigits_no s w hs hz h
  · rw [ba_empty s (by omega)]; exact allDigits_empty w

set_option maxHeartbeats 400000 in
theorem number_bad (s : ByteArray) (w : World) (hs : s.size ≤ maxLen) (h : ¬ AD s) :
    Calls Tryz.prog 127 #[.string s] w fun e w' => e = .returned (.tuple #[.int .i64 0, .int .i64 5]) ∧ w = w' := by
  have H := Lib.hid h
  clear h
  go_enter Tryz.func127, Tryz.ntmps127
  go_wp2_with fail
  refine (notAD_any s _ hs H.out).mono ?_
  rintro e w' ⟨rfl, rfl⟩
  go_wp2
  go_ret2
  exact ⟨rfl, rfl⟩

set_option maxHeartbeats 400000 in
theorem number_ok (s : ByteArray) (w : World) (hs : s.size ≤ maxLen) (h : AD s) (hv : (valTo s s.size : Int) ≤ 9223372036854775807) :
    Calls Tryz.prog 127 #[.string s] w fun e w' => e = .returned (.tuple #[.int .i64 (valTo s s.size : Nat), .int .i64 0]) ∧ w = w' := by
  have H := Lib.hid h
  have V := Lib.hid hv
  clear h hv
  have hs' := hs
  unfold maxLen at hs'
  go_enter Tryz.func127, Tryz.ntmps127
  go_wp2_with fail
  refine (allDigits_yes s _ hs H.out).mono ?_
  rintro e w' ⟨rfl, rfl⟩
  go_wp2
  go_loop [4, 12] (fun n i => ∃ k : Nat, k ≤ s.size ∧ i = .int .i64 k ∧ n = .int .i64 (valTo s k : Nat)) (fun _ i => s.size - (intOf i).toNat)
  case atStart => exact ⟨0, Nat.zero_le _, rfl, rfl⟩
  case round =>
    obtain ⟨k, hk, rfl, rfl⟩ := hrel
    by_cases hlt : k < s.size
    · have hd := H.out.2 k hlt
      unfold Dig at hd
      have hm := valTo_mono s (k + 1) s.size (by omega)
      have hv := V.out
      have he : valTo s (k + 1) = valTo s k * 10 + ((bt s k).toNat - 48) := rfl
      rw [← bt_eq s k hlt] at hd he
      obtain ⟨d1, d2⟩ := hd
      have d1' : (48 : Int) ≤ (s[k].toNat : Int) := by omega
      have d2' : (s[k].toNat : Int) ≤ 57 := by omega
      have hb : ((valTo s (k + 1) : Nat) : Int) = (valTo s k : Int) * 10 + ((s[k].toNat : Int) - 48) := by omega
      have hc : ¬ (9223372036854775807 - ((s[k].toNat : Int) - 48)) / 10 < (valTo s k : Int) := by omega
      have hc0 : (valTo s k : Int) * 10 + ((s[k].toNat : Int) - 48) ≤ 9223372036854775807 := by omega
      have E := Lib.hid hb
      clear hb he hv hm d1 d2
      go_wp2
      go_round
      case rel => exact ⟨k + 1, by omega, by go_num, by rw [E.out]⟩
      case measure => simp [intOf]; omega
    · obtain rfl : k = s.size := by omega
      go_wp2
      go_ret2
      exact ⟨rfl, rfl⟩

set_option maxHeartbeats 400000 in
theorem number_big (s : ByteArray) (w : World) (hs : s.size ≤ maxLen) (h : AD s) (hv : (9223372036854775807 : Int) < (valTo s s.size : Int)) :
    Calls Tryz.prog 127 #[.string s] w fun e w' => e = .returned (.tuple #[.int .i64 0, .int .i64 6]) ∧ w = w' := by
  have H := Lib.hid h
  have V := Lib.hid hv
  clear h hv
  have hs' := hs
  unfold maxLen at hs'
  go_enter Tryz.func127, Tryz.ntmps127
  go_wp2_with fail
  refine (allDigits_yes s _ hs H.out).mono ?_
  rintro e w' ⟨rfl, rfl⟩
  go_wp2
  go_loop [4, 12] (fun n i => ∃ k : Nat, k ≤ s.size ∧ i = .int .i64 k ∧ n = .int .i64 (valTo s k : Nat) ∧ (valTo s k : Int) ≤ 9223372036854775807) (fun _ i => s.size - (intOf i).toNat)
  case atStart => exact ⟨0, Nat.zero_le _, rfl, rfl, by simp [valTo]⟩
  case round =>
    obtain ⟨k, hk, rfl, rfl, hle⟩ := hrel
    by_cases hlt : k < s.size
    · have hd := H.out.2 k hlt
      unfold Dig at hd
      have he : valTo s (k + 1) = valTo s k * 10 + ((bt s k).toNat - 48) := rfl
      rw [← bt_eq s k hlt] at hd he
      obtain ⟨d1, d2⟩ := hd
      have d1' : (48 : Int) ≤ (s[k].toNat : Int) := by omega
      have d2' : (s[k].toNat : Int) ≤ 57 := by omega
      have hb : ((valTo s (k + 1) : Nat) : Int) = (valTo s k : Int) * 10 + ((s[k].toNat : Int) - 48) := by omega
      have E := Lib.hid hb
      clear hb he d1 d2
      by_cases hc : (9223372036854775807 - ((s[k].toNat : Int) - 48)) / 10 < (valTo s k : Int)
      · go_wp2
        go_ret2
        exact ⟨rfl, rfl⟩
      · have hc0 : (valTo s k : Int) * 10 + ((s[k].toNat : Int) - 48) ≤ 9223372036854775807 := by omega
        go_wp2
        go_round
        case rel => exact ⟨k + 1, by omega, by go_num, by rw [E.out], by rw [E.out]; exact hc0⟩
        case measure => simp [intOf]; omega
    · obtain rfl : k = s.size := by omega
      have := V.out
      omega

set_option maxHeartbeats 800000 in
theorem refNumber_ok (s : ByteArray) (w : World) (hs : s.size ≤ maxLen) (h : AD s) (hv : (valTo s s.size : Int) ≤ 9223372036854775807) :
    Calls Tryz.prog 65 #[.string s] w fun e w' => e = .returned (.tuple #[.int .i64 (valTo s s.size : Nat), .int .i64 0]) ∧ w = w' := by
  have H := Lib.hid h
  have V := Lib.hid hv
  clear h hv
  unfold maxLen at hs
  have hne := toList_ne s H.out.1
  have hne' : s.toList.isEmpty = false := by simp [hne]
  go_enter Tryz.func65, Tryz.ntmps65
  go_wp2
  go_loop [4] (fun i => ∃ k : Nat, k ≤ s.size ∧ i = .int .i64 k) (fun i => s.size - (intOf i).toNat)
  case atStart => exact ⟨0, Nat.zero_le _, rfl⟩
  case round =>
    obtain ⟨k, hk, rfl⟩ := hrel
    by_cases hlt : k < s.size
    · have hd := H.out.2 k hlt
      unfold Dig at hd
      rw [← bt_eq s k hlt] at hd
      obtain ⟨d1, d2⟩ := hd
      have d1' : (48 : Int) ≤ (s[k].toNat : Int) := by omega
      have d2' : (s[k].toNat : Int) ≤ 57 := by omega
      go_wp2
      go_round
      case rel => exact ⟨k + 1, by omega, by go_num⟩
      case measure => simp [intOf]; omega
    · obtain rfl : k = s.size := by omega
      clear hlt hk
      go_wp2
      go_loop [5, 6] (fun n i => ∃ k : Nat, k ≤ s.size ∧ i = .int .i64 k ∧ n = .int .u64 (valTo s k : Nat)) (fun _ i => s.size - (intOf i).toNat)
      case atStart => exact ⟨0, Nat.zero_le _, rfl, rfl⟩
      case round =>
        obtain ⟨k, hk, rfl, rfl⟩ := hrel
        by_cases hlt : k < s.size
        · have hd := H.out.2 k hlt
          unfold Dig at hd
          have hm := valTo_mono s (k + 1) s.size (by omega)
          have hv := V.out
          have he : valTo s (k + 1) = valTo s k * 10 + ((bt s k).toNat - 48) := rfl
          rw [← bt_eq s k hlt] at hd he
          obtain ⟨d1, d2⟩ := hd
          have d1' : (48 : Int) ≤ (s[k].toNat : Int) := by omega
          have d2' : (s[k].toNat : Int) ≤ 57 := by omega
          have hb : ((valTo s (k + 1) : Nat) : Int) = (valTo s k : Int) * 10 + ((s[k].toNat : Int) - 48) := by omega
          have hc : ¬ (922337203685477580 : Int) < (valTo s k : Int) := by omega
          have hc0 : (valTo s k : Int) * 10 + ((s[k].toNat : Int) - 48) ≤ 9223372036854775807 := by omega
          have E := Lib.hid hb
          clear hb he hv hm d1 d2
          by_cases hq : (valTo s k : Int) = 922337203685477580
          · have hq1 : ((valTo s k : Int) == 922337203685477580) = true := by simp [hq]
            have hq2 : ¬ (7 : Int) < (s[k].toNat : Int) - 48 := by omega
            clear hq
            go_wp2
            go_round
            case rel => exact ⟨k + 1, by omega, by go_num, by rw [E.out]⟩
            case measure => simp [intOf]; omega
          · have hq1 : ((valTo s k : Int) == 922337203685477580) = false := by simp [hq]
            clear hq
            go_wp2
            go_round
            case rel => exact ⟨k + 1, by omega, by go_num, by rw [E.out]⟩
            case measure => simp [intOf]; omega
        · obtain rfl : k = s.size := by omega
          have hv := V.out
          go_wp2
          go_ret2
          exact ⟨rfl, rfl⟩

set_option maxHeartbeats 800000 in
theorem refNumber_big (s : ByteArray) (w : World) (hs : s.size ≤ maxLen) (h : AD s) (hv : (9223372036854775807 : Int) < (valTo s s.size : Int)) :
    Calls Tryz.prog 65 #[.string s] w fun e w' => e = .returned (.tuple #[.int .i64 0, .int .i64 6]) ∧ w = w' := by
  have H := Lib.hid h
  have V := Lib.hid hv
  clear h hv
  unfold maxLen at hs
  have hne := toList_ne s H.out.1
  have hne' : s.toList.isEmpty = false := by simp [hne]
  go_enter Tryz.func65, Tryz.ntmps65
  go_wp2
  go_loop [4] (fun i => ∃ k : Nat, k ≤ s.size ∧ i = .int .i64 k) (fun i => s.size - (intOf i).toNat)
  case atStart => exact ⟨0, Nat.zero_le _, rfl⟩
  case round =>
    obtain ⟨k, hk, rfl⟩ := hrel
    by_cases hlt : k < s.size
    · have hd := H.out.2 k hlt
      unfold Dig at hd
      rw [← bt_eq s k hlt] at hd
      obtain ⟨d1, d2⟩ := hd
      have d1' : (48 : Int) ≤ (s[k].toNat : Int) := by omega
      have d2' : (s[k].toNat : Int) ≤ 57 := by omega
      go_wp2
      go_round
      case rel => exact ⟨k + 1, by omega, by go_num⟩
      case measure => simp [intOf]; omega
    · obtain rfl : k = s.size := by omega
      clear hlt hk
      go_wp2
      go_loop [5, 6] (fun n i => ∃ k : Nat, k ≤ s.size ∧ i = .int .i64 k ∧ n = .int .u64 (valTo s k : Nat) ∧ (valTo s k : Int) ≤ 9223372036854775807) (fun _ i => s.size - (intOf i).toNat)
      case atStart => exact ⟨0, Nat.zero_le _, rfl, rfl, by simp [valTo]⟩
      case round =>
        obtain ⟨k, hk, rfl, rfl, hle⟩ := hrel
        by_cases hlt : k < s.size
        · have hd := H.out.2 k hlt
          unfold Dig at hd
          have he : valTo s (k + 1) = valTo s k * 10 + ((bt s k).toNat - 48) := rfl
          rw [← bt_eq s k hlt] at hd he
          obtain ⟨d1, d2⟩ := hd
          have d1' : (48 : Int) ≤ (s[k].toNat : Int) := by omega
          have d2' : (s[k].toNat : Int) ≤ 57 := by omega
          have hb : ((valTo s (k + 1) : Nat) : Int) = (valTo s k : Int) * 10 + ((s[k].toNat : Int) - 48) := by omega
          have E := Lib.hid hb
          clear hb he d1 d2
          by_cases hc : (922337203685477580 : Int) < (valTo s k : Int)
          · go_wp2
            go_ret2
            exact ⟨rfl, rfl⟩
          · by_cases hq : (valTo s k : Int) = 922337203685477580
            · have hq1 : ((valTo s k : Int) == 922337203685477580) = true := by simp [hq]
              by_cases hq2 : (7 : Int) < (s[k].toNat : Int) - 48
              · clear hq
                go_wp2
                go_ret2
                exact ⟨rfl, rfl⟩
              · have hc0 : (valTo s k : Int) * 10 + ((s[k].toNat : Int) - 48) ≤ 9223372036854775807 := by omega
                clear hq
                go_wp2
                go_round
                case rel => exact ⟨k + 1, by omega, by go_num, by rw [E.out], by rw [E.out]; exact hc0⟩
                case measure => simp [intOf]; omega
            · have hq1 : ((valTo s k : Int) == 922337203685477580) = false := by simp [hq]
              have hc0 : (valTo s k : Int) * 10 + ((s[k].toNat : Int) - 48) ≤ 9223372036854775807 := by omega
              clear hq
              go_wp2
              go_round
              case rel => exact ⟨k + 1, by omega, by go_num, by rw [E.out], by rw [E.out]; exact hc0⟩
              case measure => simp [intOf]; omega
        · obtain rfl : k = s.size := by omega
          have := V.out
          omega
end Go.Proofs.YtpcldpnaljheoaaGreatDoor.X
end
section
namespace Go.Proofs.YtpcldpnaljheoaaGreatDoor.X
open Go.RowKit

def valL (l : List UInt8) : Nat := l.foldl (fun n c => n * 10 + (c.toNat - 48)) 0
theorem valTo_eq (s : ByteArray) (k : Nat) (h : k ≤ s.size) : valTo s k = valL (s.data.toList.take k) := by
  induction k with
  | zero => simp [valTo, valL]
  | succ k ih =>
    rw [take_bt s k (by omega)]
    unfold valL at *
    rw [List.foldl_append, ← ih (by omega)]
    rfl
theorem valTo_all (l : List UInt8) : valTo ⟨l.toArray⟩ (ByteArray.mk l.toArray).size = valL l := by
  rw [valTo_eq _ _ (Nat.le_refl _)]
  have : (ByteArray.mk l.toArray).size = l.length := by show l.toArray.size = _; simp
  rw [this]
  simp
theorem AD_of (l : List UInt8) (h0 : 0 < l.length) (h : ∀ c ∈ l, 48 ≤ c.toNat ∧ c.toNat ≤ 57) : AD ⟨l.toArray⟩ := by
  refine ⟨by show 0 < l.toArray.size; simpa using h0, fun j hj => ?_⟩
  have hj' : j < l.length := by
    have : j < l.toArray.size := hj
    simpa using this
  unfold Dig bt
  have e : (ByteArray.mk l.toArray).data.toList.getD j 0 = l[j] := by
    show l.toArray.toList.getD j 0 = _
    rw [List.getD_eq_getElem?_getD, List.getElem?_eq_getElem (by simpa using hj')]
    rfl
  rw [e]
  exact h _ (List.getElem_mem _)
end Go.Proofs.YtpcldpnaljheoaaGreatDoor.X
end
section
namespace Go.Proofs.YtpcldpnaljheoaaGreatDoor.X.P
open Go.RowKit

def isBl (c : UInt8) : Bool := c == 9 || c == 10 || c == 13 || c == 32
def isDig (c : UInt8) : Bool := decide (48 ≤ c.toNat) && decide (c.toNat ≤ 57)
def isUp (c : UInt8) : Bool := decide (65 ≤ c.toNat) && decide (c.toNat ≤ 90)
def isLow (c : UInt8) : Bool := decide (97 ≤ c.toNat) && decide (c.toNat ≤ 122)
def isLet (c : UInt8) : Bool := isLow c || isUp c
def isNam (c : UInt8) : Bool := isLet c || (isDig c || c == 95)
def signs : List (List UInt8) := [[58, 61], [60, 62], [60, 61], [62, 61], [61], [60], [62], [43], [45], [42], [40], [41], [91], [93], [59], [58], [44], [46]]
def maxInt : Nat := 9223372036854775807

/-- A token that a text begins with: what it is, how many bytes it has; the error. -/
structure Fd where
  kind : Nat
  text : List UInt8
  n : Nat
  used : Nat
  err : Nat
def bad (e : Nat) : Fd := ⟨0, [], 0, 0, e⟩
def noteL (l : List UInt8) : Fd := if (readL 0 l).2.2 = 0 then ⟨6, (readL 0 l).1, 0, (readL 0 l).2.1, 0⟩ else bad (readL 0 l).2.2
def intL (ds : List UInt8) : Fd := if maxInt < valL ds then bad 6 else ⟨3, [], valL ds, ds.length, 0⟩
def nameK (t : List UInt8) : Nat := if isIn ⟨t.toArray⟩ (wordsOf 0) = true then 2 else 1
def nameL (nm : List UInt8) : Fd := if 32 < nm.length then bad 3 else ⟨nameK (nm.map Lib.lowerB), nm.map Lib.lowerB, 0, nm.length, 0⟩
def visB (b : UInt8) : Bool := decide (32 ≤ b.toNat) && decide (b.toNat ≤ 126) && !(b == 39)
def quoteL (l : List UInt8) : Fd :=
  if Lib.hasPrefix l [39, 39, 39, 39] = true then ⟨4, [], 39, 4, 0⟩
  else if (visB (l.getD 1 0) && l.getD 2 0 == 39) = true then ⟨4, [], (l.getD 1 0).toNat, 3, 0⟩ else bad 7
def hashL (ds : List UInt8) : Fd := if (decide (ds.length = 0) || decide (3 < ds.length) || decide (255 < valL ds)) = true then bad 7 else ⟨4, [], valL ds, 1 + ds.length, 0⟩
def signL (l : List UInt8) : Fd := match signs.find? (fun g => Lib.hasPrefix l g) with
  | some g => ⟨5, g, 0, g.length, 0⟩
  | none => bad 5
/-- The token at the beginning of a text that begins with no blank. -/
def tokL : List UInt8 → Fd
  | [] => bad 0
  | c :: r =>
    if (c == 123) = true then noteL (c :: r)
    else if isDig c = true then intL ((c :: r).takeWhile isDig)
    else if isLet c = true then nameL ((c :: r).takeWhile isNam)
    else if (c == 39) = true then quoteL (c :: r)
    else if (c == 35) = true then hashL (r.takeWhile isDig)
    else signL (c :: r)
theorem tokL_cons (c : UInt8) (r : List UInt8) : tokL (c :: r) = if (c == 123) = true then noteL (c :: r)
    else if isDig c = true then intL ((c :: r).takeWhile isDig)
    else if isLet c = true then nameL ((c :: r).takeWhile isNam)
    else if (c == 39) = true then quoteL (c :: r)
    else if (c == 35) = true then hashL (r.takeWhile isDig)
    else signL (c :: r) := rfl

/-- A token, whole. -/
structure Tk where
  kind : Nat
  text : List UInt8
  n : Nat
  same : Bool
  pos : Nat
  line : Nat
  col : Nat
def mkT (s : ByteArray) (f : Fd) (k : Nat) (last : Int) : Tk := ⟨f.kind, f.text, f.n, decide ((lineOf s k : Int) = last), k, lineOf s k, colOf s k⟩
/-- All tokens, or what is wrong, and where. -/
structure Res where
  code : Nat
  pos : Nat
  toks : List Tk
/-- The first place from k on that holds no blank. -/
def blEnd (s : ByteArray) (k : Nat) : Nat := k + ((s.data.toList.drop k).takeWhile isBl).length
def fdAt (s : ByteArray) (k : Nat) : Fd := tokL (s.data.toList.drop k)
def lexN (s : ByteArray) : Nat → Nat → Int → List Tk → Res
  | 0, _, _, _ => ⟨0, 0, []⟩
  | m + 1, k, last, acc =>
    if (fdAt s (blEnd s k)).err ≠ 0 then ⟨(fdAt s (blEnd s k)).err, blEnd s k, []⟩
    else if (fdAt s (blEnd s k)).kind = 0 then ⟨0, 0, acc ++ [mkT s (fdAt s (blEnd s k)) (blEnd s k) last]⟩
    else lexN s m (blEnd s k + (fdAt s (blEnd s k)).used) (lineOf s (blEnd s k + (fdAt s (blEnd s k)).used)) (acc ++ [mkT s (fdAt s (blEnd s k)) (blEnd s k) last])
theorem lexN_succ (s : ByteArray) (m k : Nat) (last : Int) (acc : List Tk) : lexN s (m + 1) k last acc =
    if (fdAt s (blEnd s k)).err ≠ 0 then ⟨(fdAt s (blEnd s k)).err, blEnd s k, []⟩
    else if (fdAt s (blEnd s k)).kind = 0 then ⟨0, 0, acc ++ [mkT s (fdAt s (blEnd s k)) (blEnd s k) last]⟩
    else lexN s m (blEnd s k + (fdAt s (blEnd s k)).used) (lineOf s (blEnd s k + (fdAt s (blEnd s k)).used)) (acc ++ [mkT s (fdAt s (blEnd s k)) (blEnd s k) last]) := rfl
def lexAll (s : ByteArray) : Res := if 65536 < s.size then ⟨3, 0, []⟩ else lexN s (s.size + 1) 0 (-1) []

/- What a token's length is. -/
theorem tw_len {p : UInt8 → Bool} (l : List UInt8) : (l.takeWhile p).length ≤ l.length := by
  have := congrArg List.length (List.takeWhile_append_dropWhile (p := p) (l := l))
  rw [List.length_append] at this
  omega
theorem tw_pos {p : UInt8 → Bool} {c : UInt8} {r : List UInt8} (h : p c = true) : 1 ≤ ((c :: r).takeWhile p).length := by
  rw [List.takeWhile_cons, if_pos h]; simp
theorem hp_len {l g : List UInt8} (h : Lib.hasPrefix l g = true) : g.length ≤ l.length := (List.isPrefixOf_iff_prefix.1 h).length_le
theorem rd_use (d : Int) (hd : d = 0) : ∀ l sh acc u, (rd d l sh acc u).2.2 = 0 → u + 1 ≤ (rd d l sh acc u).2.1 ∧ (rd d l sh acc u).2.1 ≤ u + l.length ∧ (rd d l sh acc u).1.length + 1 + u ≤ acc.length + (rd d l sh acc u).2.1 := by
  subst hd
  intro l
  induction l with
  | nil => intro sh acc u h; cases sh <;> simp [rd] at h
  | cons c r ih =>
    intro sh acc u h
    cases sh with
    | true =>
      simp only [rd] at h ⊢
      split at h
      · rename_i h1
        rw [if_pos h1]
        split at h
        · simp at h
        · rename_i h2
          rw [if_neg h2]
          have := ih _ _ _ h
          simp at this ⊢; omega
      · simp at h
    | false =>
      simp only [rd] at h ⊢
      split at h
      · rename_i h1; rw [if_pos h1]; simp [clL]; omega
      · rename_i h1
        rw [if_neg h1]
        split at h
        · rename_i h2; rw [if_pos h2]
          have := ih _ _ _ h
          simp at this ⊢; omega
        · rename_i h2; rw [if_neg h2]
          split at h
          · simp at h
          · rename_i h3; rw [if_neg h3]
            split at h
            · simp at h
            · rename_i h4; rw [if_neg h4]
              have := ih _ _ _ h
              simp at this ⊢; omega
theorem read_cons (r : List UInt8) : readL 0 (123 :: r) = rd 0 r false [] 1 := by
  unfold readL
  rw [show diaB 0 = true from rfl, show begs 0 (123 :: r) = true by simp [begs, Lib.hasPrefix, opL]]
  simp [opL]
theorem note_use (r : List UInt8) (h : (noteL (123 :: r)).err = 0) : 2 ≤ (noteL (123 :: r)).used ∧ (noteL (123 :: r)).used ≤ r.length + 1 ∧ (noteL (123 :: r)).text.length + 2 ≤ (noteL (123 :: r)).used ∧ (noteL (123 :: r)).kind = 6 := by
  unfold noteL at h ⊢
  rw [read_cons] at h ⊢
  split at h
  · rename_i h1
    have := rd_use 0 rfl r false [] 1 h1
    rw [if_pos h1]
    simp at this ⊢; omega
  · rename_i h1; exact absurd h h1
theorem signs_len : ∀ g ∈ signs, 1 ≤ g.length ∧ g.length ≤ 2 := by decide
theorem quote_hp {r : List UInt8} (h : ((39 :: r).getD 2 0 == (39 : UInt8)) = true) : 2 ≤ r.length := by
  match r, h with
  | [], h => exact absurd h (by decide)
  | [_], h => exact absurd h (by simp)
  | _ :: _ :: _, _ => simp
/-- A token has a byte at least, and no more than there are. -/
theorem tok_use (c : UInt8) (r : List UInt8) (h : (tokL (c :: r)).err = 0) : 1 ≤ (tokL (c :: r)).used ∧ (tokL (c :: r)).used ≤ r.length + 1 ∧ 1 ≤ (tokL (c :: r)).kind ∧ (tokL (c :: r)).kind ≤ 6 ∧ (tokL (c :: r)).text.length ≤ (tokL (c :: r)).used := by
  rw [tokL_cons] at h ⊢
  split
  · rename_i h1
    rw [if_pos h1] at h
    have hc : c = 123 := by simpa using h1
    subst hc
    have := note_use r h
    omega
  · rename_i h1
    rw [if_neg h1] at h
    split
    · rename_i h2
      rw [if_pos h2] at h
      have a1 := tw_pos (r := r) h2
      have a2 := tw_len (p := isDig) (c :: r)
      unfold intL at h ⊢
      split
      · rename_i h3; rw [if_pos h3] at h; simp [bad] at h
      · simp at a2 ⊢; omega
    · rename_i h2
      rw [if_neg h2] at h
      split
      · rename_i h3
        rw [if_pos h3] at h
        have a1 := tw_pos (p := isNam) (c := c) (r := r) (by unfold isNam; rw [h3]; rfl)
        have a2 := tw_len (p := isNam) (c :: r)
        unfold nameL at h ⊢
        split
        · rename_i h4; rw [if_pos h4] at h; simp [bad] at h
        · unfold nameK; simp at a2 ⊢; split <;> simp <;> omega
      · rename_i h3
        rw [if_neg h3] at h
        split
        · rename_i h4
          rw [if_pos h4] at h
          have hc : c = 39 := by simpa using h4
          subst hc
          unfold quoteL at h ⊢
          split
          · rename_i h5
            have := hp_len h5
            simp at this ⊢; omega
          · rename_i h5
            rw [if_neg h5] at h
            split
            · rename_i h6
              rw [Bool.and_eq_true] at h6
              have := quote_hp h6.2
              simp; omega
            · rename_i h6; rw [if_neg h6] at h; simp [bad] at h
        · rename_i h4
          rw [if_neg h4] at h
          split
          · rename_i h5
            rw [if_pos h5] at h
            have a2 := tw_len (p := isDig) r
            unfold hashL at h ⊢
            split
            · rename_i h6; rw [if_pos h6] at h; simp [bad] at h
            · simp; omega
          · rename_i h5
            rw [if_neg h5] at h
            unfold signL at h ⊢
            split
            · rename_i g hg
              have h6 := signs_len g (List.mem_of_find?_eq_some hg)
              have h7 := hp_len (List.find?_some hg)
              simp at h7 ⊢; omega
            · rename_i hg; rw [hg] at h; simp [bad] at h
theorem blEnd_bd (s : ByteArray) (k : Nat) (h : k ≤ s.size) : k ≤ blEnd s k ∧ blEnd s k ≤ s.size := by
  unfold blEnd
  have := tw_len (p := isBl) (s.data.toList.drop k)
  rw [List.length_drop, len_size] at this
  omega
theorem drop_cons {s : ByteArray} {k : Nat} (h : k < s.size) : ∃ c r, s.data.toList.drop k = c :: r ∧ r.length + 1 = s.size - k := by
  refine ⟨bt s k, s.data.toList.drop (k + 1), drop_bt s k h, ?_⟩
  rw [List.length_drop, len_size]; omega
theorem fd_use (s : ByteArray) (k : Nat) (h : k < s.size) (he : (fdAt s k).err = 0) : 1 ≤ (fdAt s k).used ∧ k + (fdAt s k).used ≤ s.size ∧ 1 ≤ (fdAt s k).kind := by
  obtain ⟨c, r, hc, hl⟩ := drop_cons h
  unfold fdAt at he ⊢
  rw [hc] at he ⊢
  have := tok_use c r he
  omega
theorem fd_end (s : ByteArray) (k : Nat) (h : ¬ k < s.size) : fdAt s k = bad 0 := by
  unfold fdAt; rw [drop_end s k h]; rfl
end Go.Proofs.YtpcldpnaljheoaaGreatDoor.X.P
end
section
namespace Go.Proofs.YtpcldpnaljheoaaGreatDoor.X.P
open Go.RowKit

def joinP (ps : List ByteArray) : List UInt8 := Lib.join (ps.map (·.data.toList)) [36]
theorem joinP_one (t : ByteArray) : joinP [t] = t.data.toList := Lib.join_one _ _
def longB (t : ByteArray) : Bool := decide (32 < t.size)
def nameP (ps : List ByteArray) (d : Int) : Fd := if ps.any longB = true then bad 3 else ⟨if isIn ⟨(joinP ps).toArray⟩ (wordsOf d) = true then 2 else 1, joinP ps, 0, (joinP ps).length, 0⟩
theorem nameP_one (nm : List UInt8) : nameP [⟨(nm.map Lib.lowerB).toArray⟩] 0 = nameL nm := by
  have hz : (ByteArray.mk (nm.map Lib.lowerB).toArray).size = nm.length := by
    have := len_size (ByteArray.mk (nm.map Lib.lowerB).toArray)
    simpa using this.symm
  unfold nameP nameL nameK
  rw [joinP_one]
  simp [longB, hz]
end Go.Proofs.YtpcldpnaljheoaaGreatDoor.X.P
end
section
namespace Go.Proofs.YtpcldpnaljheoaaGreatDoor.X
open Go.RowKit

set_option maxHeartbeats 400000 in
theorem new_any (s : ByteArray) (w : World) :
    Calls Tryz.prog 70 #[.string s] w fun e w' => e = .returned (.pointer (some ⟨w.heap.size, 0, none⟩)) ∧ w' = w.alloc (.cells #[.string s, .int .i64 0, .int .i64 0, .int .i64 0] 159) := by
  go_enter Tryz.func70, Tryz.ntmps70
  go_wp2
  go_ret
  exact ⟨rfl, rfl⟩

set_option maxHeartbeats 400000 in
theorem peek_out (b k : Nat) (i : Int) (s : ByteArray) (w : World) (h0 : w.cell? ⟨b, 0, none⟩ = some (.string s)) (h1 : w.cell? ⟨b, 1, none⟩ = some (.int .i64 (k : Int)))
    (hs : s.size ≤ maxLen) (hk : k ≤ s.size) (hi0 : 0 ≤ i) (hi : (s.size : Int) - k ≤ i) :
    Calls Tryz.prog 107 #[.pointer (some ⟨b, 0, none⟩), .int .i64 i] w fun e w' => e = .returned (.tuple #[.int .u8 0, .bool false]) ∧ ∃ n, w' = w.drewN n := by
  unfold maxLen at hs
  have hd : decide (i < 0) = false := by simp; omega
  go_enter Tryz.func107, Tryz.ntmps107
  go_wp2
  go_quiet (fail)
  go_wp2
  go_ret2
  exact ⟨rfl, _, rfl⟩

set_option maxHeartbeats 400000 in
theorem peek_in (b k : Nat) (i : Int) (s : ByteArray) (w : World) (h0 : w.cell? ⟨b, 0, none⟩ = some (.string s)) (h1 : w.cell? ⟨b, 1, none⟩ = some (.int .i64 (k : Int)))
    (hs : s.size ≤ maxLen) (hk : k ≤ s.size) (hi0 : 0 ≤ i) (hi : i < (s.size : Int) - k) :
    Calls Tryz.prog 107 #[.pointer (some ⟨b, 0, none⟩), .int .i64 i] w fun e w' => e = .returned (.tuple #[.int .u8 (bt s (k + i.toNat)).toNat, .bool true]) ∧ ∃ n, w' = w.drewN n := by
  unfold maxLen at hs
  obtain ⟨j, rfl⟩ := Int.eq_ofNat_of_zero_le hi0
  rw [Int.toNat_natCast]
  have hd : decide ((j : Int) < 0) = false := by simp
  have hlt : k + j < s.size := by omega
  have hw0 : (0 : Int) ≤ (k : Int) + j := by omega
  have hw1 : (k : Int) + j < s.size := by omega
  have hw2 : ((k : Int) + j).toNat = k + j := by omega
  have hw : IntKind.i64.wrap ((k : Int) + j) = (k : Int) + j := IntWalk.i64_in _ (by omega)
  rw [← bt_eq s (k + j) hlt]
  go_enter Tryz.func107, Tryz.ntmps107
  go_wp2
  go_quiet (fail)
  go_wp2
  go_quiet (fail)
  go_wp2
  go_ret2
  exact ⟨rfl, _, World.drewN_drewN ..⟩

set_option maxHeartbeats 400000 in
theorem next_out (b k : Nat) (s : ByteArray) (w : World) (hc : CurAt w b s k) (hs : s.size ≤ maxLen) (hk : s.size ≤ k) :
    Calls Tryz.prog 108 #[.pointer (some ⟨b, 0, none⟩)] w fun e w' => e = .returned (.tuple #[.int .u8 0, .bool false]) ∧ ∃ n, w' = w.drewN n := by
  have C0 := Lib.hid hc.c0
  have C1 := Lib.hid hc.c1
  have hle := hc.le
  clear hc
  go_enter Tryz.func108, Tryz.ntmps108
  go_wp2_with fail
  refine (peek_out b k 0 s _ C0.out C1.out hs hle (by omega) (by omega)).mono ?_
  rintro e w' ⟨rfl, n, rfl⟩
  go_wp2
  go_ret2
  exact ⟨rfl, _, rfl⟩
set_option maxHeartbeats 400000 in
theorem next_in (b k : Nat) (s : ByteArray) (w : World) (hc : CurAt w b s k) (hs : s.size ≤ maxLen) (hk : k < s.size) :
    Calls Tryz.prog 108 #[.pointer (some ⟨b, 0, none⟩)] w fun e w' => e = .returned (.tuple #[.int .u8 (bt s k).toNat, .bool true]) ∧ CurAt w' b s (k + 1) ∧ Only b w w' := by
  have C := Lib.hid hc
  have h0 := hc.c0
  have h1 := hc.c1
  have h2 := hc.c2
  have h3 := hc.c3
  have f1 := hc.fz 1
  have f2 := hc.fz 2
  have f3 := hc.fz 3
  have hl := line_le s k
  have hco := col_le s k
  clear hc
  have hs' := hs
  unfold maxLen at hs'
  by_cases hn : (bt s k).toNat = 10
  · have e1 := line_nl s k hk hn
    have e2 := col_nl s k hk hn
    have E1 := Lib.hid e1
    have E2 := Lib.hid e2
    clear e1 e2
    have hb : (((bt s k).toNat : Int) == 10) = true := by simp; omega
    clear hn
    go_enter Tryz.func108, Tryz.ntmps108
    go_wp2_with fail
    refine (peek_in b k 0 s _ h0 h1 hs (by omega) (by omega) (by omega)).mono ?_
    rintro e w' ⟨rfl, n, rfl⟩
    go_wp2
    go_ret2
    refine ⟨rfl, ⟨hk, ?_⟩, ((((Only.refl b w).drewN n).setCell rfl _).setCell rfl _ |>.setCell rfl _).setCell rfl _⟩
    rw [heap_set (heap_set (heap_set (heap_set (show (w.drewN n).heap[b]? = _ from C.out.blk) _) _) _) _, E1.out, E2.out]
    simp
  · have e1 := line_no s k hk hn
    have e2 := col_no s k hk hn
    have E1 := Lib.hid e1
    have E2 := Lib.hid e2
    clear e1 e2
    have hb : (((bt s k).toNat : Int) == 10) = false := by simp; omega
    clear hn
    go_enter Tryz.func108, Tryz.ntmps108
    go_wp2_with fail
    refine (peek_in b k 0 s _ h0 h1 hs (by omega) (by omega) (by omega)).mono ?_
    rintro e w' ⟨rfl, n, rfl⟩
    go_wp2
    go_ret2
    refine ⟨rfl, ⟨hk, ?_⟩, (((Only.refl b w).drewN n).setCell rfl _).setCell rfl _⟩
    rw [heap_set (heap_set (show (w.drewN n).heap[b]? = _ from C.out.blk) _) _, E1.out, E2.out]
    simp

def skipN (n : Int) (k : Nat) (s : ByteArray) : Nat := min n.toNat (s.size - k)
set_option maxHeartbeats 400000 in
theorem skip_any (b k : Nat) (n : Int) (s : ByteArray) (w : World) (hc : CurAt w b s k) (hs : s.size ≤ maxLen) :
    Calls Tryz.prog 125 #[.pointer (some ⟨b, 0, none⟩), .int .i64 n] w fun e w' => e = .returned (.int .i64 (skipN n k s : Nat)) ∧ CurAt w' b s (k + skipN n k s) ∧ Only b w w' := by
  have C := Lib.hid hc
  clear hc
  have hs' := hs
  unfold maxLen at hs'
  go_enter Tryz.func125, Tryz.ntmps125
  go_wp2_with fail
  go_loopw [5] (fun d wr => ∃ j : Nat, d = .int .i64 j ∧ j ≤ n.toNat ∧ CurAt wr b s (k + j) ∧ Only b w wr) (fun d _ => s.size - (intOf d).toNat)
  case atStart => exact ⟨0, rfl, Nat.zero_le _, C.out, Only.refl _ _⟩
  case round =>
    obtain ⟨j, rfl, hj, hcj, ho⟩ := hrel
    have hle := hcj.le
    have CJ := Lib.hid hcj
    have O := Lib.hid ho
    clear hcj ho
    by_cases hlt : (j : Int) < n
    · by_cases hin : k + j < s.size
      · go_wp2_with fail
        refine (next_in b (k + j) s _ CJ.out hs hin).mono ?_
        rintro e w' ⟨rfl, hc1, ho1⟩
        have C1 := Lib.hid hc1
        have O1 := Lib.hid ho1
        clear hc1 ho1
        go_wp2_with fail
        go_roundw
        case rel => exact ⟨j + 1, by go_num, by omega, C1.out, O.out.trans O1.out⟩
        case measure => simp [intOf]; omega
      · go_wp2_with fail
        refine (next_out b (k + j) s _ CJ.out hs (by omega)).mono ?_
        rintro e w' ⟨rfl, m, rfl⟩
        go_wp2_with fail
        go_ret
        have e : skipN n k s = j := by unfold skipN; omega
        rw [e]
        exact ⟨rfl, CJ.out.drewN _, O.out.drewN _⟩
    · go_wp2_with fail
      go_ret
      have e : skipN n k s = j := by unfold skipN; omega
      rw [e]
      exact ⟨rfl, CJ.out, O.out⟩
set_option maxHeartbeats 400000 in
theorem pos_any (b k : Nat) (s : ByteArray) (w : World) (hc : CurAt w b s k) :
    Calls Tryz.prog 72 #[.pointer (some ⟨b, 0, none⟩)] w fun e w' => e = .returned (.agg #[.int .i64 (k : Nat), .int .i64 (lineOf s k : Nat), .int .i64 (colOf s k : Nat)]) ∧ Below w.heap.size w w' := by
  have hl := hc.lt
  have h1 := hc.c1
  have h2 := hc.c2
  have h3 := hc.c3
  clear hc
  go_enter Tryz.func72, Tryz.ntmps72
  go_wp2
  exact bodyPost_ret (v := .agg #[.int .i64 (k : Nat), .int .i64 (lineOf s k : Nat), .int .i64 (colOf s k : Nat)]) (by simp [results, Tryz.results72, go_sem]) rfl ⟨rfl, (Below.refl _ _).alloc (Nat.le_refl _) _⟩
end Go.Proofs.YtpcldpnaljheoaaGreatDoor.X
end
section
namespace Go.Proofs.YtpcldpnaljheoaaGreatDoor.X
open Go.RowKit

theorem Only.set {b : Nat} {a w : World} (h : Only b a w) (o : Nat) (u : Value) : Only b a (w.setCell ⟨b, o, none⟩ u) := h.setCell rfl u
structure PosAt (w : World) (b : Nat) (s : ByteArray) (k : Nat) : Prop where
  blk : w.heap[b]? = some (.cells #[.int .i64 (k : Nat), .int .i64 (lineOf s k : Nat), .int .i64 (colOf s k : Nat)] 28)
theorem PosAt.lt {w : World} {b : Nat} {s : ByteArray} {k : Nat} (h : PosAt w b s k) : b < w.heap.size := heap_lt h.blk
theorem PosAt.c0 {w : World} {b : Nat} {s : ByteArray} {k : Nat} (h : PosAt w b s k) : w.cell? ⟨b, 0, none⟩ = some (.int .i64 (k : Nat)) := by simp [World.cell?, h.blk]
theorem PosAt.c1 {w : World} {b : Nat} {s : ByteArray} {k : Nat} (h : PosAt w b s k) : w.cell? ⟨b, 1, none⟩ = some (.int .i64 (lineOf s k : Nat)) := by simp [World.cell?, h.blk]
theorem PosAt.c2 {w : World} {b : Nat} {s : ByteArray} {k : Nat} (h : PosAt w b s k) : w.cell? ⟨b, 2, none⟩ = some (.int .i64 (colOf s k : Nat)) := by simp [World.cell?, h.blk]
theorem PosAt.fz {w : World} {b : Nat} {s : ByteArray} {k : Nat} (h : PosAt w b s k) (o : Nat) : w.frozen? ⟨b, o, none⟩ = false := by simp [World.frozen?, h.blk]

end Go.Proofs.YtpcldpnaljheoaaGreatDoor.X
end
section
namespace Go.Proofs.YtpcldpnaljheoaaGreatDoor.X
open Go.RowKit

/-- Is c among the first k bytes of s? -/
def inTo (s : ByteArray) (k c : Nat) : Bool := (s.data.toList.take k).any fun x => x.toNat == c
def memL (f : Nat → Bool) : List Value := (List.range 256).map fun i => Value.bool (f i)
def memArr (f : Nat → Bool) : Array Value := (memL f).toArray
theorem memL_len (f : Nat → Bool) : (memL f).length = 256 := by simp [memL]
theorem memArr_size (f : Nat → Bool) : (memArr f).size = 256 := by simp [memArr, memL_len]
theorem memL_at (f : Nat → Bool) (c : Nat) (h : c < 256) : (memL f)[c]? = some (.bool (f c)) := by
  simp [memL, h]
theorem memArr_at (f : Nat → Bool) (c : Nat) (h : c < 256) : (memArr f)[c]? = some (.bool (f c)) := by
  simp [memArr, memL_at f c h]
theorem memArr_set (f g : Nat → Bool) (c : Nat) (h : c < 256) (hg : ∀ i, i < 256 → g i = if i = c then true else f i) : (memArr f).setIfInBounds c (.bool true) = memArr g := by
  apply Array.ext_getElem?
  intro i
  rw [Array.getElem?_setIfInBounds, memArr_size]
  by_cases hi : i < 256
  · rw [memArr_at g i hi, hg i hi]
    by_cases e : c = i
    · subst e; simp [hi]
    · rw [if_neg e, memArr_at f i hi, if_neg (fun h => e h.symm)]
  · rw [if_neg (by omega), Array.getElem?_eq_none (by rw [memArr_size]; omega), Array.getElem?_eq_none (by rw [memArr_size]; omega)]
theorem inTo_zero (s : ByteArray) (c : Nat) : inTo s 0 c = false := by simp [inTo]
theorem inTo_succ (s : ByteArray) (k c : Nat) (h : k < s.size) : inTo s (k + 1) c = if c = (bt s k).toNat then true else inTo s k c := by
  unfold inTo
  rw [take_bt s k h, List.any_append]
  by_cases e : c = (bt s k).toNat
  · subst e; simp
  · rw [if_neg e]
    have : ((bt s k).toNat == c) = false := by simp; omega
    simp [this]
theorem zero59 (w : World) : (zeroValue 160).run Tryz.prog w = .ok (.agg (memArr fun _ => false)) w := by kernel_rfl
theorem info59 : (Tryz.prog.info? 160).map (·.size) = some 256 := by kernel_rfl

structure MemAt (w : World) (b : Nat) (f : Nat → Bool) : Prop where
  blk : w.heap[b]? = some (.cells (memArr f) 160)
theorem MemAt.lt {w : World} {b : Nat} {f : Nat → Bool} (h : MemAt w b f) : b < w.heap.size := heap_lt h.blk
theorem MemAt.cell {w : World} {b : Nat} {f : Nat → Bool} (h : MemAt w b f) (c : Nat) (hc : c < 256) : w.cell? ⟨b, c, none⟩ = some (.bool (f c)) := by
  simp [World.cell?, h.blk, memArr_at f c hc]
theorem MemAt.fz {w : World} {b : Nat} {f : Nat → Bool} (h : MemAt w b f) (o : Nat) : w.frozen? ⟨b, o, none⟩ = false := by simp [World.frozen?, h.blk]
theorem MemAt.range {w : World} {b : Nat} {f : Nat → Bool} (h : MemAt w b f) : w.rangeAt b 0 (memL f) := by
  intro j v hv
  have hj : j < 256 := by
    have := (List.getElem?_eq_some_iff.1 hv).1
    rwa [memL_len] at this
  rw [memL_at f j hj] at hv
  rw [Nat.zero_add, h.cell j hj]
  exact hv
theorem MemAt.there {w : World} {b : Nat} {f : Nat → Bool} (h : MemAt w b f) : w.there b 0 256 := by
  intro j hj
  rw [Nat.zero_add, h.cell j hj]
  exact ⟨rfl, h.fz j⟩
theorem mem_one (f : Nat → Bool) : ((memArr f).all fun x => x.oneCell') = true := by
  simp [memArr, memL, Value.oneCell']
theorem MemAt.stays {w w' : World} {b : Nat} {f : Nat → Bool} (h : MemAt w b f) (e : w'.heap[b]? = w.heap[b]?) : MemAt w' b f := ⟨e.trans h.blk⟩

theorem results_cell1 {fn : Func} {p : Tmp} {ty : TypeId} (h : fn.results = #[.cell p ty]) {tmps : Array Value} {P : Program} {w : World} {a : Addr} {v : Value}
    (ha : tmps.getD p undef = .pointer (some a)) (hl : (loadVar ty a).run P w = .ok v w) : (results fn tmps).run P w = .ok v w := by
  rw [Array.getD_eq_getD_getElem?] at ha
  have hr : (asAddr (tmps[p]?.getD undef)).run P w = .ok a w := by rw [ha]; rfl
  simp only [results, h]
  simp [Sem.run_bind, Result.andThen, hr, hl]
theorem below_setCells {B : Nat} {a : World} (b : Nat) (hb : B ≤ b) : ∀ (vs : List Value) (o : Nat) (w : World), Below B a w → Below B a (w.setCells b o vs)
  | [], _, _, h => h
  | v :: r, o, _, h => below_setCells b hb r (o + 1) _ (h.setCell hb v)
theorem memArr_list (f : Nat → Bool) : (memArr f).toList = memL f := by simp [memArr]

set_option maxHeartbeats 400000 in
theorem members_any (s : ByteArray) (w : World) (hs : s.size ≤ maxLen) :
    Calls Tryz.prog 106 #[.string s] w fun e w' => e = .returned (.agg (memArr (inTo s s.size))) ∧ Below w.heap.size w w' := by
  unfold maxLen at hs
  have hz := zero59
  go_enter Tryz.func106, Tryz.ntmps106
  go_wp2_with fail
  clear hz
  obtain ⟨w2, hw2⟩ : ∃ w2, w2 = (w.alloc (.cells (memArr fun _ => false) 160)).alloc (.cells (memArr fun _ => false) 160) := ⟨_, rfl⟩
  rw [← hw2]
  have M0 := Lib.hid (show MemAt w2 (w.heap.size + 1) (inTo s 0) from ⟨by
    have := heap_new (w.alloc (.cells (memArr fun _ => false) 160)) (.cells (memArr fun _ => false) 160)
    rw [show (w.alloc (.cells (memArr fun _ => false) 160)).heap.size = w.heap.size + 1 by simp] at this
    rw [hw2, this, show inTo s 0 = fun _ => false from funext (inTo_zero s)]⟩)
  have R0 := Lib.hid (show MemAt w2 w.heap.size (fun _ => false) from ⟨by
    rw [hw2, Below.heap_alloc _ _ _ (by simp), heap_new]⟩)
  have B0 := Lib.hid (show Below w.heap.size w w2 by
    rw [hw2]; exact ((Below.refl _ _).alloc (Nat.le_refl _) _).alloc (by simp) _)
  clear hw2
  go_loopw [7] (fun i wr => ∃ k : Nat, i = .int .i64 k ∧ k ≤ s.size ∧ MemAt wr (w.heap.size + 1) (inTo s k) ∧ Only (w.heap.size + 1) w2 wr) (fun i _ => s.size - (intOf i).toNat)
  case atStart => exact ⟨0, rfl, Nat.zero_le _, M0.out, Only.refl _ _⟩
  case round =>
    obtain ⟨k, rfl, hk, hm, ho⟩ := hrel
    have O := Lib.hid ho
    have M := Lib.hid hm
    clear ho
    by_cases hlt : k < s.size
    · have hc := UInt8.toNat_lt s[k]
      have h0 := hm.cell s[k].toNat (by omega)
      have f0 := hm.fz s[k].toNat
      have hc1 : (s[k].toNat : Int) < 256 := by omega
      have hb := bt_eq s k hlt
      have E := Lib.hid (memArr_set (inTo s k) (inTo s (k + 1)) s[k].toNat (by omega) (fun i _ => by rw [inTo_succ s k i hlt, hb]))
      clear hm hb
      go_wp2_with fail
      go_roundw
      case rel =>
        refine ⟨k + 1, by go_num, by omega, ⟨?_⟩, O.out.set _ _⟩
        rw [heap_set M.out.blk, E.out]
      case measure => simp [intOf]; omega
    · obtain rfl : k = s.size := by omega
      have RR := Lib.hid (R0.out.stays (O.out.block w.heap.size (by omega) R0.out.lt))
      have BB := Lib.hid (B0.out.trans (O.out.below (B := w.heap.size) (by omega) B0.out.size))
      clear hm hlt hk
      go_wp2_with (first | (refine wpList_load_mid (by rfl) 160 (.tmp 3) (by rfl) (w.heap.size + 1) 0 (by rfl) (memL (inTo s s.size)) _ M.out.range Tryz.underlying160 (by rfl) (by rw [memL_len]; exact info59) ?_) | (refine wpList_store_mid (by rfl) 160 (.tmp 2) (.tmp 15) (by rfl) w.heap.size 0 (memArr (inTo s s.size)) (by rfl) (by rfl) (by rw [memArr_size]; exact RR.out.there) (by rw [memArr_size]; exact info59) (mem_one _) ?_))
      refine bodyPost_ret (v := .agg (memArr (inTo s s.size))) ?_ rfl ⟨rfl, below_setCells _ (Nat.le_refl _) _ _ _ BB.out⟩
      refine results_cell1 Tryz.results106 (a := ⟨w.heap.size, 0, none⟩) rfl ?_
      rw [memArr_list]
      exact run_loadVar_mid _ w.heap.size 0 160 (memL (inTo s s.size)) _ (World.rangeAt_setCells_same _ _ _ _ (by rw [memL_len]; exact RR.out.there)) Tryz.underlying160 rfl (by rw [memL_len]; exact info59)
end Go.Proofs.YtpcldpnaljheoaaGreatDoor.X
end
section
namespace Go.Proofs.YtpcldpnaljheoaaGreatDoor.X
open Go.RowKit

/-- Does the set hold the byte at k? -/
def holds (set s : ByteArray) (k : Nat) : Bool := inTo set set.size (bt s k).toNat
def runTo (set s : ByteArray) : Nat → Nat → Nat
  | 0, k => k
  | n + 1, k => if holds set s k = true then runTo set s n (k + 1) else k
/-- The place at which While stops, from k on. -/
def whEnd (set s : ByteArray) (k : Nat) : Nat := runTo set s (s.size - k) k
theorem whEnd_in (set s : ByteArray) (k : Nat) (h : k < s.size) (hh : holds set s k = true) : whEnd set s k = whEnd set s (k + 1) := by
  unfold whEnd
  rw [show s.size - k = (s.size - (k + 1)) + 1 by omega, runTo, if_pos hh]
theorem whEnd_out (set s : ByteArray) (k : Nat) (hh : holds set s k = false) : whEnd set s k = k := by
  unfold whEnd
  cases s.size - k with
  | zero => rfl
  | succ n => rw [runTo, if_neg (by rw [hh]; decide)]
theorem whEnd_end (set s : ByteArray) (k : Nat) (h : s.size ≤ k) : whEnd set s k = k := by
  unfold whEnd
  rw [show s.size - k = 0 by omega]
  rfl
/-- How much a cursor has ahead. -/
def leftOf (s : ByteArray) (b : Nat) (w : World) : Nat := s.size - (match w.cell? ⟨b, 1, none⟩ with | some v => (intOf v).toNat | none => 0)
theorem leftOf_at {w : World} {b : Nat} {s : ByteArray} {k : Nat} (h : CurAt w b s k) : leftOf s b w = s.size - k := by
  unfold leftOf
  rw [h.c1]
  simp [intOf]
theorem only_cell {b : Nat} {w w' : World} (h : Only b w w') {p : Addr} (hp : p.block ≠ b) {v : Value} (hv : w.cell? p = some v) : w'.cell? p = some v := by
  have hlt : p.block < w.heap.size := block_lt_of_cell hv
  rw [World.cell?_of_block (w := w) (h.block p.block hp hlt)]; exact hv

set_option maxHeartbeats 1000000 in
theorem while_any (b k : Nat) (s set : ByteArray) (w : World) (hc : CurAt w b s k) (hs : s.size ≤ maxLen) (ht : set.size ≤ maxLen) :
    Calls Tryz.prog 71 #[.pointer (some ⟨b, 0, none⟩), .string set] w fun e w' => e = .returned (.string (s.extract k (whEnd set s k))) ∧ CurAt w' b s (whEnd set s k) ∧ Only b w w' := by
  have C := Lib.hid hc
  have hlt0 := hc.lt
  clear hc
  have hs' := hs
  unfold maxLen at hs'
  have hz := zero59
  go_enter Tryz.func71, Tryz.ntmps71
  go_wp2_with fail
  refine (members_any set _ ht).mono ?_
  rintro e w1 ⟨rfl, b1⟩
  have B1 := Lib.hid b1
  have C1 := Lib.hid (C.out.stays (b1.block _ hlt0))
  have hz1 := b1.size
  clear b1 C
  have there1 : (w1.alloc (.cells (memArr fun _ => false) 160)).there w1.heap.size 0 (memArr (inTo set set.size)).size := by
    rw [memArr_size]
    exact MemAt.there (f := fun _ => false) ⟨heap_new _ _⟩
  have TH := Lib.hid there1
  have FW : ∀ W, (w1.alloc (.cells (memArr fun _ => false) 160)).setCells w1.heap.size 0 (memL (inTo set set.size)) = W →
      CurAt W b s k ∧ Below w1.heap.size w1 W ∧ W.rangeAt w1.heap.size 0 (memL (inTo set set.size)) := by
    rintro W rfl
    have hb : Below w1.heap.size w1 ((w1.alloc (.cells (memArr fun _ => false) 160)).setCells w1.heap.size 0 (memL (inTo set set.size))) :=
      below_setCells _ (Nat.le_refl _) _ _ _ ((Below.refl _ _).alloc (Nat.le_refl _) _)
    refine ⟨C1.out.stays (hb.block _ C1.out.lt), hb, World.rangeAt_setCells_same _ _ _ _ ?_⟩
    rw [show (memL (inTo set set.size)).length = (memArr (inTo set set.size)).size from (memL_len _).trans (memArr_size _).symm]
    exact there1
  have FW := Lib.hid FW
  clear there1
  have tok1 : True := trivial
  go_wp2_with (have _t := tok1; (with_reducible refine wpList_store_mid (op := ⟨none, .store 160 (.tmp 5) (.tmp 12), _, _, _, _⟩) ?h1 160 (.tmp 5) (.tmp 12) ?h2 w1.heap.size 0 (memArr (inTo set set.size)) ?h3 ?h4 ?h5 ?h6 ?h7 ?h8); (case h1 => exact Eq.refl _); (case h2 => exact Eq.refl _); (case h3 => exact Eq.refl _); (case h4 => exact Eq.refl _); (case h5 => exact TH.out); (case h6 => rw [memArr_size]; exact info59); (case h7 => exact mem_one _); rw [memArr_list]; generalize hW : World.setCells _ _ _ _ = w2; obtain ⟨c2, b2, r2⟩ := FW.out _ hW; have h1 := c2.c1; have C2 := Lib.hid c2; have B2 := Lib.hid b2; have R2 := Lib.hid r2; clear hW c2 b2 r2 FW tok1)
  have hmb : w1.heap.size ≠ b := by omega
  have BW := Lib.hid (Only.ofBelow (b := b) (B1.out.trans (B2.out.mono hz1)) (Nat.le_refl _))
  clear TH h1 B1 B2 C1 hz
  go_loopw [7, 8] (fun _ _ wr => ∃ j : Nat, k ≤ j ∧ CurAt wr b s j ∧ Only b w2 wr ∧ whEnd set s k = whEnd set s j) (fun _ _ wr => leftOf s b wr)
  case atStart => exact ⟨k, Nat.le_refl _, C2.out, Only.refl _ _, rfl⟩
  case round =>
    obtain ⟨j, hj, hcj, ho, he⟩ := hrel
    have hle := hcj.le
    have c0 := hcj.c0
    have c1 := hcj.c1
    have CJ := Lib.hid hcj
    have O := Lib.hid ho
    have E := Lib.hid he
    clear hcj ho he
    by_cases hin : j < s.size
    · have hbt := UInt8.toNat_lt (bt s j)
      have hm0 := R2.out (bt s j).toNat _ (memL_at _ _ (by omega))
      rw [Nat.zero_add] at hm0
      have hm := only_cell O.out (p := ⟨w1.heap.size, (bt s j).toNat, none⟩) hmb hm0
      clear hm0
      have hbi : ((bt s j).toNat : Int) < 256 := by omega
      cases hh : holds set s j with
      | true =>
        have E1 := Lib.hid (E.out.trans (whEnd_in set s j hin hh))
        unfold holds at hh
        rw [hh] at hm
        clear hh
        go_wp2_with fail
        refine (peek_in b j 0 s _ c0 c1 hs (by omega) (by omega) (by omega)).mono ?_
        rw [show j + (0 : Int).toNat = j from rfl]
        rintro e w' ⟨rfl, n, rfl⟩
        go_wp2_with fail
        refine (next_in b j s _ (CJ.out.drewN n) hs hin).mono ?_
        rintro e w3 ⟨rfl, c3, o3⟩
        have C3 := Lib.hid c3
        have O3 := Lib.hid o3
        clear c3 o3
        go_wp2_with fail
        go_roundw
        case rel => exact ⟨j + 1, by omega, C3.out, O.out.trans (((Only.refl b wr).drewN n).trans O3.out), E1.out⟩
        case measure => rw [leftOf_at C3.out, leftOf_at CJ.out]; omega
      | false =>
        have E1 := Lib.hid (E.out.trans (whEnd_out set s j hh))
        unfold holds at hh
        rw [hh] at hm
        clear hh
        have hw1 : (k : Int) ≤ (j : Int) := by omega
        have hw2 : (j : Int) ≤ (s.size : Int) := by omega
        go_wp2_with fail
        refine (peek_in b j 0 s _ c0 c1 hs (by omega) (by omega) (by omega)).mono ?_
        rw [show j + (0 : Int).toNat = j from rfl]
        rintro e w' ⟨rfl, n, rfl⟩
        go_wp2_with fail
        go_quiet (fail)
        go_wp2_with fail
        go_ret
        rw [E1.out]
        exact ⟨rfl, (CJ.out.drewN n).drewN _, (((BW.out.trans O.out).drewN n)).drewN _⟩
    · have E1 := Lib.hid (E.out.trans (whEnd_end set s j (by omega)))
      have hw1 : (k : Int) ≤ (j : Int) := by omega
      have hw2 : (j : Int) ≤ (s.size : Int) := by omega
      go_wp2_with fail
      refine (peek_out b j 0 s _ c0 c1 hs (by omega) (by omega) (by omega)).mono ?_
      rintro e w' ⟨rfl, n, rfl⟩
      go_wp2_with fail
      go_quiet (fail)
      go_wp2_with fail
      go_ret
      rw [E1.out]
      exact ⟨rfl, (CJ.out.drewN n).drewN _, (((BW.out.trans O.out).drewN n)).drewN _⟩
end Go.Proofs.YtpcldpnaljheoaaGreatDoor.X
end
section
namespace Go.Proofs.YtpcldpnaljheoaaGreatDoor.X
open Go.RowKit

theorem cell_eq {w w' : World} {b o : Nat} (h : w'.heap[b]? = w.heap[b]?) : w'.cell? ⟨b, o, none⟩ = w.cell? ⟨b, o, none⟩ := by
  unfold World.cell?
  simp only [h]

/-- A slice of texts. -/
def IsStrs (w : World) (a : Option Addr) (len cap : Nat) (ss : List ByteArray) : Prop :=
  ss.length = len ∧ len ≤ cap ∧ cap ≤ maxLen ∧ (∀ x ∈ ss, x.size ≤ maxLen) ∧ (len = 0 ∨ ∃ b o, a = some ⟨b, o, none⟩ ∧ b < w.heap.size ∧ ∀ j x, ss[j]? = some x → w.cell? ⟨b, o + j, none⟩ = some (.string x))
theorem IsStrs.kept {w w' : World} {a : Option Addr} {len cap : Nat} {ss : List ByteArray} (h : IsStrs w a len cap ss) (hs : w.heap.size ≤ w'.heap.size) (hb : ∀ b o, a = some ⟨b, o, none⟩ → b < w.heap.size → w'.heap[b]? = w.heap[b]?) : IsStrs w' a len cap ss := by
  obtain ⟨h1, h2, h3, h4, h5⟩ := h
  refine ⟨h1, h2, h3, h4, ?_⟩
  rcases h5 with h5 | ⟨b, o, e, hl, hc⟩
  · exact .inl h5
  · exact .inr ⟨b, o, e, by omega, fun j x hx => (cell_eq (hb b o e hl)).trans (hc j x hx)⟩
theorem IsStrs.below {w w' : World} {a : Option Addr} {len cap : Nat} {ss : List ByteArray} (h : IsStrs w a len cap ss) (hb : Below w.heap.size w w') : IsStrs w' a len cap ss :=
  h.kept hb.size fun b _ _ hl => hb.block b hl
theorem IsStrs.nil (w : World) : IsStrs w none 0 0 [] := ⟨rfl, Nat.le_refl _, by decide, by simp, .inl rfl⟩
theorem IsStrs.len_le {w : World} {a : Option Addr} {len cap : Nat} {ss : List ByteArray} (h : IsStrs w a len cap ss) : len ≤ 9223372036854775807 := by
  have h1 := h.2.1
  have h2 := h.2.2.1
  unfold maxLen at h2
  omega
theorem IsStrs.at {w : World} {a : Option Addr} {len cap : Nat} {ss : List ByteArray} (h : IsStrs w a len cap ss) {k : Nat} (hk : k < len) :
    ∃ b o x, a = some ⟨b, o, none⟩ ∧ ss[k]? = some x ∧ x.size ≤ maxLen ∧ w.cell? ⟨b, o + k, none⟩ = some (.string x) := by
  obtain ⟨x, hx⟩ : ∃ x, ss[k]? = some x := ⟨ss[k]'(by rw [h.1]; exact hk), List.getElem?_eq_getElem _⟩
  rcases h.2.2.2.2 with h00 | ⟨b, o, rfl, hbl, hcell⟩
  · omega
  · exact ⟨b, o, x, rfl, hx, h.2.2.2.1 x (List.mem_of_getElem? hx), hcell k x hx⟩

/-- v is a list of texts of one's own, from the block 'base' on. -/
def OwnS (base : Nat) (w : World) (v : Value) (ss : List ByteArray) : Prop := w.ownsRow base 9 1 v ss.length (ss.map Value.string)
theorem OwnS.nil (base : Nat) (w : World) : OwnS base w (.slice none 0 0) [] := World.ownsRow_nil _ _ _ _
theorem OwnS.lt {base : Nat} {w : World} {v : Value} {ss : List ByteArray} (h : OwnS base w v ss) (k : Nat) (hk : v.ownBlock = some k) : base ≤ k ∧ k < w.heap.size := World.ownsRow.lt h k hk
theorem OwnS.kept {base : Nat} {w w' : World} {v : Value} {ss : List ByteArray} (h : OwnS base w v ss) (hb : ∀ k, v.ownBlock = some k → w'.heap[k]? = w.heap[k]?) : OwnS base w' v ss := by
  refine ⟨h.1, ?_⟩
  rcases h.2 with h4 | ⟨g, cap, cur, hv, hb', hg, r⟩
  · exact .inl h4
  · exact .inr ⟨g, cap, cur, hv, hb', (hb g (by rw [hv]; rfl)).trans hg, r⟩
theorem OwnS.below {base : Nat} {w w' : World} {v : Value} {ss : List ByteArray} (h : OwnS base w v ss) (hb : Below w.heap.size w w') : OwnS base w' v ss :=
  h.kept fun k hk => hb.block k (h.lt k hk).2
theorem OwnS.strs {base : Nat} {w : World} {v : Value} {ss : List ByteArray} (h : OwnS base w v ss) (hs : ∀ x ∈ ss, x.size ≤ maxLen) : ∃ a cap, v = .slice a ss.length cap ∧ IsStrs w a ss.length cap ss := by
  rcases h.2 with ⟨rfl, h4⟩ | ⟨g, cap, cur, rfl, hb', hg, h1, h2, h3, h5⟩
  · have : ss = [] := List.eq_nil_of_length_eq_zero h4
    subst this
    exact ⟨none, 0, rfl, IsStrs.nil _⟩
  · refine ⟨_, cap, rfl, ⟨rfl, h1, h2, hs, .inr ⟨g, 0, rfl, heap_lt hg, fun j x hx => ?_⟩⟩⟩
    have hj := (List.getElem?_eq_some_iff.1 hx).1
    have e1 : cur.toList[j]? = (ss.map Value.string)[j]? := by rw [← h5, List.getElem?_take]; simp [hj]
    have e2 : cur[j]? = some (.string x) := by
      rw [List.getElem?_map, hx] at e1
      simpa using e1
    simp [World.cell?, hg, e2]
theorem OwnS.lit (w : World) (ss : List ByteArray) (hl : ss.length ≤ maxLen) : OwnS w.heap.size (w.alloc (.cells (ss.map Value.string).toArray 9)) (.slice (some ⟨w.heap.size, 0, none⟩) ss.length ss.length) ss :=
  ⟨by simp, .inr ⟨w.heap.size, ss.length, _, rfl, Nat.le_refl _, heap_new _ _, Nat.le_refl _, hl, by simp, List.take_of_length_le (by simp)⟩⟩
theorem isStrs_row {w : World} {n : Nat} {ss : List ByteArray} (hg : w.heap[n]? = some (.cells (ss.map Value.string).toArray 9 (0, 0))) (hl : ss.length ≤ maxLen) (hs : ∀ x ∈ ss, x.size ≤ maxLen) : IsStrs w (some ⟨n, 0, none⟩) ss.length ss.length ss := by
  refine ⟨rfl, Nat.le_refl _, hl, hs, .inr ⟨n, 0, rfl, heap_lt hg, fun j x hx => ?_⟩⟩
  simp [World.cell?, hg, hx]
theorem lit_strs (w : World) (ss : List ByteArray) (hl : ss.length ≤ maxLen) (hs : ∀ x ∈ ss, x.size ≤ maxLen) : IsStrs (w.alloc (.cells (ss.map Value.string).toArray 9)) (some ⟨w.heap.size, 0, none⟩) ss.length ss.length ss := isStrs_row (heap_new _ _) hl hs
theorem words_ok (d : Int) : ∀ x ∈ wordsOf d, x.size ≤ maxLen := fun x hx => by have := words_small d x hx; unfold maxLen; omega

set_option maxHeartbeats 400000 in
set_option maxRecDepth 100000 in
theorem all_pas (w : World) : Calls Tryz.prog 157 #[.int .i64 0] w fun e w' => e = .returned (.slice (some ⟨w.heap.size, 0, none⟩) 34 34) ∧ w' = w.alloc (.cells (pasW.map Value.string).toArray 9) := by
  go_enter Tryz.func157, Tryz.ntmps157
  go_wp2_with fail
  go_ret
  exact ⟨rfl, rfl⟩
set_option maxHeartbeats 400000 in
set_option maxRecDepth 100000 in
theorem all_cee (w : World) : Calls Tryz.prog 157 #[.int .i64 1] w fun e w' => e = .returned (.slice (some ⟨w.heap.size, 0, none⟩) 21 21) ∧ w' = w.alloc (.cells (ceeW.map Value.string).toArray 9) := by
  go_enter Tryz.func157, Tryz.ntmps157
  go_wp2_with fail
  go_ret
  exact ⟨rfl, rfl⟩
set_option maxHeartbeats 400000 in
set_option maxRecDepth 100000 in
theorem all_no (d : Int) (w : World) (h0 : d ≠ 0) (h1 : d ≠ 1) : Calls Tryz.prog 157 #[.int .i64 d] w fun e w' => e = .returned (.slice none 0 0) ∧ w' = w := by
  have e0 : (d == 0) = false := by simpa using h0
  have e1 : (d == 1) = false := by simpa using h1
  go_enter Tryz.func157, Tryz.ntmps157
  go_wp2_with fail
  go_ret
  exact ⟨rfl, rfl⟩
set_option maxHeartbeats 400000 in
set_option maxRecDepth 100000 in
theorem refAll_pas (w : World) : Calls Tryz.prog 150 #[.int .i64 0] w fun e w' => e = .returned (.slice (some ⟨w.heap.size, 0, none⟩) 34 34) ∧ w' = w.alloc (.cells (pasW.map Value.string).toArray 9) := by
  go_enter Tryz.func150, Tryz.ntmps150
  go_wp2_with fail
  go_ret
  exact ⟨rfl, rfl⟩
set_option maxHeartbeats 400000 in
set_option maxRecDepth 100000 in
theorem refAll_cee (w : World) : Calls Tryz.prog 150 #[.int .i64 1] w fun e w' => e = .returned (.slice (some ⟨w.heap.size, 0, none⟩) 21 21) ∧ w' = w.alloc (.cells (ceeW.map Value.string).toArray 9) := by
  go_enter Tryz.func150, Tryz.ntmps150
  go_wp2_with fail
  go_ret
  exact ⟨rfl, rfl⟩
set_option maxHeartbeats 400000 in
set_option maxRecDepth 100000 in
theorem refAll_no (d : Int) (w : World) (h0 : d ≠ 0) (h1 : d ≠ 1) : Calls Tryz.prog 150 #[.int .i64 d] w fun e w' => e = .returned (.slice none 0 0) ∧ w' = w := by
  have e0 : (d == 0) = false := by simpa using h0
  have e1 : (d == 1) = false := by simpa using h1
  go_enter Tryz.func150, Tryz.ntmps150
  go_wp2_with fail
  go_ret
  exact ⟨rfl, rfl⟩
/-- What All leaves. -/
def AllPost (d : Int) (w : World) (e : Ending) (w' : World) : Prop := ∃ v, e = .returned v ∧ OwnS w.heap.size w' v (wordsOf d) ∧ Below w.heap.size w w'
theorem allPost_pas (w : World) : AllPost 0 w (.returned (.slice (some ⟨w.heap.size, 0, none⟩) 34 34)) (w.alloc (.cells (pasW.map Value.string).toArray 9)) :=
  ⟨_, rfl, OwnS.lit w pasW (by rw [pas_len]; decide), (Below.refl _ _).alloc (Nat.le_refl _) _⟩
theorem allPost_cee (w : World) : AllPost 1 w (.returned (.slice (some ⟨w.heap.size, 0, none⟩) 21 21)) (w.alloc (.cells (ceeW.map Value.string).toArray 9)) :=
  ⟨_, rfl, OwnS.lit w ceeW (by rw [cee_len]; decide), (Below.refl _ _).alloc (Nat.le_refl _) _⟩
theorem allPost_no (d : Int) (w : World) (h0 : d ≠ 0) (h1 : d ≠ 1) : AllPost d w (.returned (.slice none 0 0)) w :=
  ⟨_, rfl, by rw [wordsOf_no d h0 h1]; exact OwnS.nil _ _, Below.refl _ _⟩
theorem all_any (d : Int) (w : World) : Calls Tryz.prog 157 #[.int .i64 d] w (AllPost d w) := by
  by_cases h0 : d = 0
  · subst h0
    refine (all_pas w).mono ?_
    rintro e w' ⟨rfl, rfl⟩
    exact allPost_pas w
  · by_cases h1 : d = 1
    · subst h1
      refine (all_cee w).mono ?_
      rintro e w' ⟨rfl, rfl⟩
      exact allPost_cee w
    · refine (all_no d w h0 h1).mono ?_
      rintro e w' ⟨rfl, rfl⟩
      exact allPost_no d _ h0 h1
theorem refAll_any (d : Int) (w : World) : Calls Tryz.prog 150 #[.int .i64 d] w (AllPost d w) := by
  by_cases h0 : d = 0
  · subst h0
    refine (refAll_pas w).mono ?_
    rintro e w' ⟨rfl, rfl⟩
    exact allPost_pas w
  · by_cases h1 : d = 1
    · subst h1
      refine (refAll_cee w).mono ?_
      rintro e w' ⟨rfl, rfl⟩
      exact allPost_cee w
    · refine (refAll_no d w h0 h1).mono ?_
      rintro e w' ⟨rfl, rfl⟩
      exact allPost_no d _ h0 h1

theorem isIn_take_succ {ss : List ByteArray} {k : Nat} {x s : ByteArray} (hx : ss[k]? = some x) (h : isIn s (ss.take k) = false) (hn : (x.toList == s.toList) = false) : isIn s (ss.take (k + 1)) = false := by
  rw [take_snoc hx]
  unfold isIn at h ⊢
  rw [List.any_append, h]
  simpa using hn
theorem isIn_take_hit {ss : List ByteArray} {k : Nat} {x s : ByteArray} (hx : ss[k]? = some x) (hn : (x.toList == s.toList) = true) : isIn s ss = true := by
  rw [isIn_iff, ← (beq_iff x s).1 hn]
  exact List.mem_of_getElem? hx

set_option maxHeartbeats 400000 in
theorem among_any (a : Option Addr) (len cap : Nat) (ss : List ByteArray) (s : ByteArray) (w : World) (hS : IsStrs w a len cap ss) :
    Calls Tryz.prog 149 #[.slice a len cap, .string s] w fun e w' => e = .returned (.bool (isIn s ss)) ∧ w' = w := by
  have HS := Lib.hid hS
  have hcap := hS.len_le
  clear hS
  generalize hr : isIn s ss = r
  have HR := Lib.hid hr
  clear hr
  go_enter Tryz.func149, Tryz.ntmps149
  go_wp2_with fail
  go_loop [5] (fun i => ∃ k : Nat, k ≤ len ∧ i = .int .i64 k ∧ isIn s (ss.take k) = false) (fun i => len - (intOf i).toNat)
  case atStart => exact ⟨0, Nat.zero_le _, rfl, rfl⟩
  case round =>
    obtain ⟨k, hk, rfl, hno⟩ := hrel
    have HN := Lib.hid hno
    clear hno
    by_cases hlt : k < len
    · obtain ⟨b, o, x, rfl, hx, hxs, hc⟩ := HS.out.at hlt
      have HX := Lib.hid hx
      clear hx
      cases hb : x.toList == s.toList with
      | true =>
        have HT := isIn_take_hit HX.out hb
        obtain rfl : r = true := by rw [← HR.out]; exact HT
        clear HT
        go_wp2_with fail
        go_ret
        exact ⟨rfl, rfl⟩
      | false =>
        have HT := Lib.hid (isIn_take_succ HX.out HN.out hb)
        go_wp2_with fail
        go_round
        case rel => exact ⟨k + 1, by omega, by go_num, HT.out⟩
        case measure => simp [intOf]; omega
    · obtain rfl : r = false := by
        rw [← HR.out, ← HN.out, List.take_of_length_le (by rw [HS.out.1]; omega)]
      go_wp2_with fail
      go_ret
      exact ⟨rfl, rfl⟩

set_option maxHeartbeats 400000 in
theorem index_any (a : Option Addr) (len cap : Nat) (ss : List ByteArray) (s : ByteArray) (w : World) (hS : IsStrs w a len cap ss) :
    Calls Tryz.prog 186 #[.slice a len cap, .string s] w fun e w' => ∃ n : Int, e = .returned (.int .i64 n) ∧ decide (0 ≤ n) = isIn s ss ∧ w' = w := by
  have HS := Lib.hid hS
  have hcap := hS.len_le
  clear hS
  generalize hr : isIn s ss = r
  have HR := Lib.hid hr
  clear hr
  go_enter Tryz.func186, Tryz.ntmps186
  go_wp2_with fail
  go_loop [8] (fun i => ∃ k : Nat, k ≤ len ∧ i = .int .i64 k ∧ isIn s (ss.take k) = false) (fun i => len - (intOf i).toNat)
  case atStart => exact ⟨0, Nat.zero_le _, rfl, rfl⟩
  case round =>
    obtain ⟨k, hk, rfl, hno⟩ := hrel
    have HN := Lib.hid hno
    clear hno
    by_cases hlt : k < len
    · obtain ⟨b, o, x, rfl, hx, hxs, hc⟩ := HS.out.at hlt
      have HX := Lib.hid hx
      clear hx
      cases hb0 : x.toList == s.toList with
      | true =>
        have HT := isIn_take_hit HX.out hb0
        have hb : (s.toList == x.toList) = true := by rw [beq_iff, (beq_iff x s).1 hb0]
        clear hb0
        obtain rfl : r = true := by rw [← HR.out]; exact HT
        clear HT
        go_wp2_with fail
        go_ret
        exact ⟨_, rfl, by simp, rfl⟩
      | false =>
        have HT := Lib.hid (isIn_take_succ HX.out HN.out hb0)
        have hb : (s.toList == x.toList) = false := by rw [beq_false]; exact fun e => (beq_false x s).1 hb0 e.symm
        clear hb0
        go_wp2_with fail
        go_round
        case rel => exact ⟨k + 1, by omega, by go_num, HT.out⟩
        case measure => simp [intOf]; omega
    · obtain rfl : r = false := by
        rw [← HR.out, ← HN.out, List.take_of_length_le (by rw [HS.out.1]; omega)]
      go_wp2_with fail
      go_ret
      exact ⟨_, rfl, by decide, rfl⟩

set_option maxHeartbeats 400000 in
theorem contains_any (a : Option Addr) (len cap : Nat) (ss : List ByteArray) (s : ByteArray) (w : World) (hS : IsStrs w a len cap ss) :
    Calls Tryz.prog 156 #[.slice a len cap, .string s] w fun e w' => e = .returned (.bool (isIn s ss)) ∧ w' = w := by
  have HS := Lib.hid hS
  clear hS
  generalize hr : isIn s ss = r
  have HR := Lib.hid hr
  clear hr
  go_enter Tryz.func156, Tryz.ntmps156
  go_wp2_with fail
  refine (index_any a len cap ss s _ HS.out).mono ?_
  rintro e w' ⟨n, rfl, hn, rfl⟩
  rw [HR.out] at hn
  cases r with
  | true =>
    have h0 : 0 ≤ n := by simpa using hn
    clear hn
    go_wp2_with fail
    go_ret
    exact ⟨rfl, rfl⟩
  | false =>
    go_wp2_with fail
    go_ret
    exact ⟨by rw [← hn]; rfl, rfl⟩

set_option maxHeartbeats 400000 in
theorem is_any (d : Int) (s : ByteArray) (w : World) :
    Calls Tryz.prog 115 #[.int .i64 d, .string s] w fun e w' => e = .returned (.bool (isIn s (wordsOf d))) ∧ Below w.heap.size w w' := by
  go_enter Tryz.func115, Tryz.ntmps115
  go_wp2_with fail
  refine (all_any d _).mono ?_
  rintro e w1 ⟨v, rfl, ho, hb⟩
  obtain ⟨a, cap, rfl, hS⟩ := ho.strs (words_ok d)
  have HS := Lib.hid hS
  have HB := Lib.hid hb
  clear hS hb ho
  go_wp2_with fail
  refine (contains_any _ _ _ _ s _ HS.out).mono ?_
  rintro e w2 ⟨rfl, rfl⟩
  go_wp2_with fail
  go_ret
  exact ⟨rfl, HB.out⟩
set_option maxHeartbeats 400000 in
theorem refIs_any (d : Int) (s : ByteArray) (w : World) :
    Calls Tryz.prog 98 #[.int .i64 d, .string s] w fun e w' => e = .returned (.bool (isIn s (wordsOf d))) ∧ Below w.heap.size w w' := by
  go_enter Tryz.func98, Tryz.ntmps98
  go_wp2_with fail
  refine (refAll_any d _).mono ?_
  rintro e w1 ⟨v, rfl, ho, hb⟩
  obtain ⟨a, cap, rfl, hS⟩ := ho.strs (words_ok d)
  have HS := Lib.hid hS
  have HB := Lib.hid hb
  clear hS hb ho
  go_wp2_with fail
  refine (among_any _ _ _ _ s _ HS.out).mono ?_
  rintro e w2 ⟨rfl, rfl⟩
  go_wp2_with fail
  go_ret
  exact ⟨rfl, HB.out⟩

end Go.Proofs.YtpcldpnaljheoaaGreatDoor.X
end
section
namespace Go.Proofs.YtpcldpnaljheoaaGreatDoor.X.P
open Go.RowKit Go.Sort

theorem _root_.Go.Proofs.YtpcldpnaljheoaaGreatDoor.X.Only.alloc {b : Nat} {a w : World} (h : Only b a w) (o : Obj) : Only b a (w.alloc o) :=
  ⟨h.os, h.tape, h.output, by have := h.size; simp; omega, fun k hk hs => (((Below.refl w.heap.size w).alloc (Nat.le_refl _) o).block k (Nat.lt_of_lt_of_le hs h.size)).trans (h.block k hk hs)⟩
theorem _root_.Go.Proofs.YtpcldpnaljheoaaGreatDoor.X.Only.new {b : Nat} {a w : World} (h : Only b a w) {q o : Nat} (hq : a.heap.size ≤ q) (u : Value) : Only b a (w.setCell ⟨q, o, none⟩ u) :=
  ⟨h.os, h.tape, h.output, by have := h.size; simp [World.setCell]; omega, fun k hk hs => (Below.heap_setCell _ _ _ _ (by simp; omega)).trans (h.block k hk hs)⟩
theorem _root_.Go.Proofs.YtpcldpnaljheoaaGreatDoor.X.Only.belowR {b : Nat} {a w w' : World} (h : Only b a w) (k : Below w.heap.size w w') : Only b a w' := h.trans (Only.ofBelow k (Nat.le_refl _))
theorem _root_.Go.Proofs.YtpcldpnaljheoaaGreatDoor.X.Only.from {b : Nat} {a a' w : World} (h : Only b a' w) (k : Below a.heap.size a a') : Only b a w := (Only.ofBelow k (Nat.le_refl _)).trans h
theorem _root_.Go.Proofs.YtpcldpnaljheoaaGreatDoor.X.CurAt.other {w : World} {b : Nat} {s : ByteArray} {k : Nat} (h : CurAt w b s k) {q o : Nat} (hq : q ≠ b) (u : Value) : CurAt (w.setCell ⟨q, o, none⟩ u) b s k :=
  h.stays (Below.heap_setCell _ _ _ _ (by simp; omega))

/-- The block p is a scanner of s, whose cursor is the block c and stands at k. -/
structure ScAt (w : World) (p c : Nat) (s : ByteArray) (k : Nat) : Prop where
  cur : CurAt w c s k
  blk : w.heap[p]? = some (.cells #[.pointer (some ⟨c, 0, none⟩), .int .i64 0, .string s] 124)
  ne : p ≠ c
theorem ScAt.lt {w : World} {p c : Nat} {s : ByteArray} {k : Nat} (h : ScAt w p c s k) : p < w.heap.size := heap_lt h.blk
theorem ScAt.c0 {w : World} {p c : Nat} {s : ByteArray} {k : Nat} (h : ScAt w p c s k) : w.cell? ⟨p, 0, none⟩ = some (.pointer (some ⟨c, 0, none⟩)) := by simp [World.cell?, h.blk]
theorem ScAt.c1 {w : World} {p c : Nat} {s : ByteArray} {k : Nat} (h : ScAt w p c s k) : w.cell? ⟨p, 1, none⟩ = some (.int .i64 0) := by simp [World.cell?, h.blk]
theorem ScAt.c2 {w : World} {p c : Nat} {s : ByteArray} {k : Nat} (h : ScAt w p c s k) : w.cell? ⟨p, 2, none⟩ = some (.string s) := by simp [World.cell?, h.blk]
theorem ScAt.only {w w' : World} {p c : Nat} {s : ByteArray} {k j : Nat} (h : ScAt w p c s k) (ho : Only c w w') (hc : CurAt w' c s j) : ScAt w' p c s j :=
  ⟨hc, (ho.block p h.ne h.lt).trans h.blk, h.ne⟩
theorem ScAt.below {w w' : World} {p c : Nat} {s : ByteArray} {k : Nat} (h : ScAt w p c s k) (hb : Below w.heap.size w w') : ScAt w' p c s k :=
  ⟨h.cur.stays (hb.block c h.cur.lt), (hb.block p h.lt).trans h.blk, h.ne⟩
theorem ScAt.drewN {w : World} {p c : Nat} {s : ByteArray} {k : Nat} (h : ScAt w p c s k) (n : Nat) : ScAt (w.drewN n) p c s k := ⟨h.cur.drewN n, h.blk, h.ne⟩
theorem ScAt.alloc {w : World} {p c : Nat} {s : ByteArray} {k : Nat} (h : ScAt w p c s k) (o : Obj) : ScAt (w.alloc o) p c s k := h.below ((Below.refl _ _).alloc (Nat.le_refl _) _)

/- While by a set, plainly. -/
theorem wh_tw (set s : ByteArray) (p : UInt8 → Bool) (hp : ∀ c : UInt8, inTo set set.size c.toNat = p c) : ∀ n k, k + n = s.size → whEnd set s k = k + ((s.data.toList.drop k).takeWhile p).length := by
  intro n
  induction n with
  | zero => intro k h; rw [whEnd_end _ _ _ (by omega), drop_end s k (by omega)]; rfl
  | succ n ih =>
    intro k h
    rw [drop_bt s k (by omega), List.takeWhile_cons]
    cases hb : p (bt s k) with
    | true => rw [whEnd_in set s k (by omega) (by unfold holds; rw [hp, hb]), ih (k + 1) (by omega), if_pos rfl, List.length_cons]; omega
    | false => rw [whEnd_out set s k (by unfold holds; rw [hp, hb]), if_neg (by decide)]; rfl
theorem tw_take (p : UInt8 → Bool) : ∀ l : List UInt8, l.take (l.takeWhile p).length = l.takeWhile p
  | [] => rfl
  | c :: r => by
    rw [List.takeWhile_cons]
    split
    · rw [List.length_cons, List.take_succ_cons, tw_take p r]
    · rfl
theorem ext_take (s : ByteArray) (k n : Nat) : s.extract k (k + n) = ⟨((s.data.toList.drop k).take n).toArray⟩ := by
  apply ByteArray.ext
  apply Array.ext'
  simp
theorem while_tw (b k : Nat) (s set : ByteArray) (p : UInt8 → Bool) (w : World) (hc : CurAt w b s k) (hs : s.size ≤ maxLen) (ht : set.size ≤ maxLen) (hp : ∀ c : UInt8, inTo set set.size c.toNat = p c) :
    Calls Tryz.prog 71 #[.pointer (some ⟨b, 0, none⟩), .string set] w fun e w' => e = .returned (.string ⟨((s.data.toList.drop k).takeWhile p).toArray⟩) ∧ CurAt w' b s (k + ((s.data.toList.drop k).takeWhile p).length) ∧ Only b w w' := by
  have h := while_any b k s set w hc hs ht
  rw [wh_tw set s p hp (s.size - k) k (by have := hc.le; omega), ext_take, tw_take] at h
  exact h
theorem all8 {q : UInt8 → Bool} (h : ∀ n : Fin 256, q (UInt8.ofNat n.val) = true) (c : UInt8) : q c = true := by
  have := h ⟨c.toNat, UInt8.toNat_lt c⟩
  simpa using this
def setD : ByteArray := ⟨#[48, 49, 50, 51, 52, 53, 54, 55, 56, 57]⟩
def setB : ByteArray := ⟨#[9, 10, 13, 32]⟩
def setL : ByteArray := ⟨#[97, 98, 99, 100, 101, 102, 103, 104, 105, 106, 107, 108, 109, 110, 111, 112, 113, 114, 115, 116, 117, 118, 119, 120, 121, 122, 65, 66, 67, 68, 69, 70, 71, 72, 73, 74, 75, 76, 77, 78, 79, 80, 81, 82, 83, 84, 85, 86, 87, 88, 89, 90]⟩
def setN : ByteArray := ⟨#[97, 98, 99, 100, 101, 102, 103, 104, 105, 106, 107, 108, 109, 110, 111, 112, 113, 114, 115, 116, 117, 118, 119, 120, 121, 122, 65, 66, 67, 68, 69, 70, 71, 72, 73, 74, 75, 76, 77, 78, 79, 80, 81, 82, 83, 84, 85, 86, 87, 88, 89, 90, 48, 49, 50, 51, 52, 53, 54, 55, 56, 57, 95]⟩
theorem setD_is (c : UInt8) : inTo setD setD.size c.toNat = isDig c := by
  have := all8 (q := fun c => inTo setD setD.size c.toNat == isDig c) (by decide +kernel) c
  simpa using this
theorem setB_is (c : UInt8) : inTo setB setB.size c.toNat = isBl c := by
  have := all8 (q := fun c => inTo setB setB.size c.toNat == isBl c) (by decide +kernel) c
  simpa using this
theorem setN_is (c : UInt8) : inTo setN setN.size c.toNat = isNam c := by
  have := all8 (q := fun c => inTo setN setN.size c.toNat == isNam c) (by decide +kernel) c
  simpa using this

/-- rest: what is left of the text. -/
def restOf (s : ByteArray) (k : Nat) : ByteArray := ⟨(s.data.toList.drop k).toArray⟩
theorem restOf_l (s : ByteArray) (k : Nat) : (restOf s k).data.toList = s.data.toList.drop k := rfl
theorem ext_rest (s : ByteArray) (k : Nat) : s.extract k s.size = restOf s k := by
  apply ByteArray.ext
  apply Array.ext'
  rw [restOf_l]
  simp
  rw [List.take_of_length_le (by simp)]
theorem restOf_size (s : ByteArray) (k : Nat) : (restOf s k).size = s.size - k := by
  have := len_size (restOf s k)
  rw [restOf_l, List.length_drop, len_size] at this
  exact this.symm
theorem field_at (a b c : Int) (w : World) : (Instr.field 28 (.agg #[.int .i64 a, .int .i64 b, .int .i64 c]) 0).run Tryz.prog w = .ok (.int .i64 a) w := by kernel_rfl
theorem field_line (a b c : Int) (w : World) : (Instr.field 28 (.agg #[.int .i64 a, .int .i64 b, .int .i64 c]) 1).run Tryz.prog w = .ok (.int .i64 b) w := by kernel_rfl
set_option maxHeartbeats 400000 in
theorem rest_any (p c k : Nat) (s : ByteArray) (w : World) (h : ScAt w p c s k) :
    Calls Tryz.prog 110 #[.pointer (some ⟨p, 0, none⟩)] w fun e w' => e = .returned (.string (restOf s k)) ∧ Below w.heap.size w w' := by
  have h0 := h.c0
  have h2 := h.c2
  have C := Lib.hid h.cur
  have hle := h.cur.le
  have hw1 : (0 : Int) ≤ (k : Int) := by omega
  have hw2 : (k : Int) ≤ (s.size : Int) := by omega
  rw [← ext_rest]
  clear h
  go_enter Tryz.func110, Tryz.ntmps110
  go_wp2_with fail
  have cP : ∀ d os, Calls Tryz.prog 72 #[.pointer (some ⟨c, 0, none⟩)] (grow (redrawn w d) os) fun e w'' => e = .returned (.agg #[.int .i64 (k : Nat), .int .i64 (lineOf s k : Nat), .int .i64 (colOf s k : Nat)]) ∧ ∃ p : Regrown, w'' = grow (redrawn w p.d) p.os := fun d os =>
    Calls.regrown_of (pos_any c k s _ (C.out.stays ((below_regrown w d os).block c C.out.lt)))
  have CP := Lib.hid cP
  have g0 := cell_regrown h0
  have g2 := cell_regrown h2
  have gf := field_at (k : Int) (lineOf s k : Int) (colOf s k : Int)
  clear cP C h0 h2
  refine wp_region_quiet_below (by kernel_rfl) (by kernel_rfl) ?_
  repeat (first | go_big_quiet_step ((with_reducible exact CP.out _ _)) | quiet_step ((with_reducible exact CP.out _ _)))
  refine wpQuiet_nil ?_
  intro _ hw'
  obtain ⟨⟨dq, osq⟩, hw''⟩ := hw'
  subst hw''
  go_wp2_with fail
  go_ret
  exact ⟨rfl, below_regrown w dq osq⟩
end Go.Proofs.YtpcldpnaljheoaaGreatDoor.X.P
end
section
namespace Go.Proofs.YtpcldpnaljheoaaGreatDoor.X.P
open Go.RowKit Go.Sort

def tokV (f : Fd) : Value := .agg #[.int .i64 (f.kind : Nat), .string ⟨f.text.toArray⟩, .int .i64 (f.n : Nat), .bool false, .int .i64 0, .int .i64 0, .int .i64 0]
/-- What a reader of one token leaves. -/
def TokPost (c : Nat) (s : ByteArray) (k : Nat) (f : Fd) (w : World) (e : Ending) (w' : World) : Prop :=
  e = .returned (.tuple #[tokV f, .int .i64 (f.err : Nat)]) ∧ Only c w w' ∧ (f.err = 0 → CurAt w' c s (k + f.used))
/-- A token that is zero lies in the block b. -/
structure TokZ (w : World) (b : Nat) : Prop where
  blk : w.heap[b]? = some (.cells #[.int .i64 0, .string ⟨#[]⟩, .int .i64 0, .bool false, .int .i64 0, .int .i64 0, .int .i64 0] 50)
theorem TokZ.lt {w : World} {b : Nat} (h : TokZ w b) : b < w.heap.size := heap_lt h.blk
theorem TokZ.facts {w : World} {b : Nat} (h : TokZ w b) : w.cell? ⟨b, 0, none⟩ = some (.int .i64 0) ∧ w.cell? ⟨b, 1, none⟩ = some (.string ⟨#[]⟩) ∧ w.cell? ⟨b, 2, none⟩ = some (.int .i64 0) ∧ w.cell? ⟨b, 3, none⟩ = some (.bool false) ∧ w.cell? ⟨b, 4, none⟩ = some (.int .i64 0) ∧ w.cell? ⟨b, 5, none⟩ = some (.int .i64 0) ∧ w.cell? ⟨b, 6, none⟩ = some (.int .i64 0) ∧ ∀ o, w.frozen? ⟨b, o, none⟩ = false := by
  have := h.blk
  refine ⟨?_, ?_, ?_, ?_, ?_, ?_, ?_, fun o => ?_⟩ <;> simp [World.cell?, World.frozen?, this]
theorem TokZ.new (w : World) : TokZ (w.alloc (.cells #[.int .i64 0, .string ⟨#[]⟩, .int .i64 0, .bool false, .int .i64 0, .int .i64 0, .int .i64 0] 50)) w.heap.size := ⟨heap_new _ _⟩
theorem TokZ.only {w w' : World} {b c : Nat} (h : TokZ w b) (ho : Only c w w') (hn : b ≠ c) : TokZ w' b := ⟨(ho.block b hn h.lt).trans h.blk⟩
theorem TokZ.below {w w' : World} {b : Nat} (h : TokZ w b) (ho : Below w.heap.size w w') : TokZ w' b := ⟨(ho.block b h.lt).trans h.blk⟩
def set7 (w : World) (b : Nat) (v0 v1 v2 v3 v4 v5 v6 : Value) : World := ((((((w.setCell ⟨b, 0, none⟩ v0).setCell ⟨b, 1, none⟩ v1).setCell ⟨b, 2, none⟩ v2).setCell ⟨b, 3, none⟩ v3).setCell ⟨b, 4, none⟩ v4).setCell ⟨b, 5, none⟩ v5).setCell ⟨b, 6, none⟩ v6
theorem set7_only {c : Nat} {w w1 : World} {b : Nat} (hb : w.heap.size ≤ b) (ho : Only c w w1) (v0 v1 v2 v3 v4 v5 v6 : Value) : Only c w (set7 w1 b v0 v1 v2 v3 v4 v5 v6) :=
  ((((((ho.new hb v0).new hb v1).new hb v2).new hb v3).new hb v4).new hb v5).new hb v6
theorem set7_cur {c : Nat} {w1 : World} {b k : Nat} {s : ByteArray} (hb : b ≠ c) (hc : CurAt w1 c s k) (v0 v1 v2 v3 v4 v5 v6 : Value) : CurAt (set7 w1 b v0 v1 v2 v3 v4 v5 v6) c s k :=
  ((((((hc.other hb v0).other hb v1).other hb v2).other hb v3).other hb v4).other hb v5).other hb v6
theorem post7 {c : Nat} {w w1 : World} {b k : Nat} {s : ByteArray} {f : Fd} (hb : w.heap.size ≤ b) (hn : b ≠ c) (ho : Only c w w1) (hc : f.err = 0 → CurAt w1 c s (k + f.used)) (v0 v1 v2 v3 v4 v5 v6 : Value) :
    TokPost c s k f w (.returned (.tuple #[tokV f, .int .i64 (f.err : Nat)])) (set7 w1 b v0 v1 v2 v3 v4 v5 v6) :=
  ⟨rfl, set7_only hb ho _ _ _ _ _ _ _, fun h => set7_cur hn (hc h) _ _ _ _ _ _ _⟩

set_option maxHeartbeats 400000 in
theorem begins2 (p c k : Nat) (s a : ByteArray) (w : World) (h : ScAt w p c s k) :
    Calls Tryz.prog 128 #[.pointer (some ⟨p, 0, none⟩), .string a] w fun e w' => e = .returned (.bool (Lib.hasPrefix (s.data.toList.drop k) a.data.toList)) ∧ Below w.heap.size w w' := by
  have H := Lib.hid h
  clear h
  go_enter Tryz.func128, Tryz.ntmps128
  go_wp2_with fail
  refine (rest_any p c k s _ H.out).mono ?_
  rintro e w1 ⟨rfl, b1⟩
  have B := Lib.hid b1
  clear b1
  go_wp2_with fail
  refine (Tryz.strings_HasPrefix (restOf s k) a _).mono ?_
  rintro e w2 ⟨rfl, rfl⟩
  go_wp2_with fail
  go_ret
  exact ⟨rfl, B.out⟩
set_option maxHeartbeats 400000 in
theorem digits2 (p c k : Nat) (s : ByteArray) (w : World) (h : ScAt w p c s k) (hs : s.size ≤ maxLen) :
    Calls Tryz.prog 126 #[.pointer (some ⟨p, 0, none⟩)] w fun e w' => e = .returned (.string ⟨((s.data.toList.drop k).takeWhile isDig).toArray⟩) ∧ CurAt w' c s (k + ((s.data.toList.drop k).takeWhile isDig).length) ∧ Only c w w' := by
  have h0 := h.c0
  have C := Lib.hid h.cur
  clear h
  go_enter Tryz.func126, Tryz.ntmps126
  go_wp2_with fail
  refine (while_tw c k s setD isDig _ C.out hs (by decide) setD_is).mono ?_
  rintro e w1 ⟨rfl, c1, o1⟩
  have C1 := Lib.hid c1
  have O1 := Lib.hid o1
  clear c1 o1
  go_wp2_with fail
  go_ret
  exact ⟨rfl, C1.out, O1.out⟩
theorem ix_ge (l : List UInt8) (c : UInt8) : decide (0 ≤ Lib.indexByte l c) = l.contains c := by
  induction l with
  | nil => rfl
  | cons b r ih =>
    rw [Lib.indexByte, List.contains_cons, show (c == b) = (b == c) from Bool.beq_comm]
    cases hb : b == c with
    | true => simp
    | false =>
      have hge := Lib.indexByte_ge r c
      rw [if_neg (by decide), Bool.false_or, ← ih]
      by_cases h : Lib.indexByte r c = -1
      · rw [h]; rfl
      · rw [if_neg (by simpa using h)]
        rw [decide_eq_decide]
        omega
theorem ret_bool2 {a b : Bool} (h : a = b) : Ending.returned (.bool a) = .returned (.bool b) := by rw [h]
set_option maxHeartbeats 400000 in
theorem oneOf_any (set : ByteArray) (c : UInt8) (w : World) :
    Calls Tryz.prog 74 #[.string set, .int .u8 (c.toNat : Int)] w fun e w' => e = .returned (.bool (set.data.toList.contains c)) ∧ w = w' := by
  have hc : ((c.toNat : Int)).toNat.toUInt8 = c := by simp
  have hi := Lib.hid (ix_ge set.data.toList c)
  have HC := Lib.hid hc
  clear hc
  go_enter Tryz.func74, Tryz.ntmps74
  go_wp2_with fail
  refine (Tryz.strings_IndexByte set _ _).mono ?_
  rw [HC.out]
  rintro e w1 ⟨rfl, rfl⟩
  go_wp2_with fail
  go_ret
  exact ⟨ret_bool2 hi.out, rfl⟩
set_option maxHeartbeats 400000 in
theorem char_any (n : Int) (w : World) :
    Calls Tryz.prog 123 #[.int .i64 n] w fun e w' => e = .returned (.agg #[.int .i64 4, .string ⟨#[]⟩, .int .i64 n, .bool false, .int .i64 0, .int .i64 0, .int .i64 0]) ∧ Below w.heap.size w w' := by
  go_enter Tryz.func123, Tryz.ntmps123
  go_wp2_with fail
  exact bodyPost_ret (v := .agg #[.int .i64 4, .string ⟨#[]⟩, .int .i64 n, .bool false, .int .i64 0, .int .i64 0, .int .i64 0]) (by simp [results, Tryz.results123, go_sem]) rfl ⟨rfl, (Below.refl _ _).alloc (Nat.le_refl _) _⟩
theorem tw_mem (p : UInt8 → Bool) : ∀ (l : List UInt8) (c : UInt8), c ∈ l.takeWhile p → p c = true
  | [], c, h => by cases h
  | x :: r, c, h => by
    rw [List.takeWhile_cons] at h
    split at h
    · rename_i hx
      rcases List.mem_cons.1 h with h | h
      · rw [h]; exact hx
      · exact tw_mem p r c h
    · cases h
theorem dig_all (l : List UInt8) : ∀ c ∈ l.takeWhile isDig, 48 ≤ c.toNat ∧ c.toNat ≤ 57 := by
  intro c hc
  have := tw_mem isDig l c hc
  simpa [isDig] using this
theorem tw_size (p : UInt8 → Bool) (s : ByteArray) (k : Nat) : (ByteArray.mk ((s.data.toList.drop k).takeWhile p).toArray).size ≤ s.size := by
  have h := tw_len (p := p) (s.data.toList.drop k)
  rw [List.length_drop, len_size] at h
  have := len_size (ByteArray.mk ((s.data.toList.drop k).takeWhile p).toArray)
  simp at this
  omega
set_option maxHeartbeats 1000000 in
theorem number_tok (p c k : Nat) (s : ByteArray) (w : World) (h : ScAt w p c s k) (hs : s.size ≤ maxLen) (hd : 0 < ((s.data.toList.drop k).takeWhile isDig).length) :
    Calls Tryz.prog 112 #[.pointer (some ⟨p, 0, none⟩)] w (TokPost c s k (intL ((s.data.toList.drop k).takeWhile isDig)) w) := by
  have hz := tw_size isDig s k
  have had := AD_of _ hd (dig_all (s.data.toList.drop k))
  have hval := valTo_all ((s.data.toList.drop k).takeWhile isDig)
  have hpc := h.ne
  have hcl := h.cur.lt
  have H := Lib.hid h
  clear h
  by_cases hb : maxInt < valL ((s.data.toList.drop k).takeWhile isDig)
  · have F : intL ((s.data.toList.drop k).takeWhile isDig) = bad 6 := by unfold intL; rw [if_pos hb]
    rw [F]
    unfold maxInt at hb
    rw [← hval] at hb
    have HB := Lib.hid hb
    have AA := Lib.hid had
    clear hb had hval F
    go_enter Tryz.func112, Tryz.ntmps112
    go_wp2_with fail
    refine (digits2 p c k s _ (H.out.alloc _) hs).mono ?_
    have Z := Lib.hid (TokZ.new w)
    have B := Lib.hid (show Below w.heap.size w (w.alloc (.cells #[.int .i64 0, .string ⟨#[]⟩, .int .i64 0, .bool false, .int .i64 0, .int .i64 0, .int .i64 0] 50)) from (Below.refl _ _).alloc (Nat.le_refl _) _)
    generalize w.alloc (.cells #[.int .i64 0, .string ⟨#[]⟩, .int .i64 0, .bool false, .int .i64 0, .int .i64 0, .int .i64 0] 50) = w0 at Z B
    rintro e w1 ⟨rfl, c1, o1⟩
    have O1 := Lib.hid (o1.from B.out)
    have Z1 := Lib.hid (Z.out.only o1 (by omega))
    obtain ⟨g0, g1, g2, g3, g4, g5, g6, gf⟩ := Z1.out.facts
    clear c1 o1 Z B
    go_wp2_with fail
    refine (number_big _ _ (by omega) AA.out (by have := HB.out; omega)).mono ?_
    rintro e w2 ⟨rfl, rfl⟩
    go_wp2_with fail
    exact bodyPost_ret (v := .tuple #[tokV (bad 6), .int .i64 6]) (by simp [results, Tryz.results112, go_sem, tokV, bad, g0, g1, g2, g3, g4, g5, g6]) rfl (post7 (f := bad 6) (Nat.le_refl _) (by omega) O1.out (fun h => by cases h) _ _ _ _ _ _ _)
  · have F : intL ((s.data.toList.drop k).takeWhile isDig) = ⟨3, [], valL ((s.data.toList.drop k).takeWhile isDig), ((s.data.toList.drop k).takeWhile isDig).length, 0⟩ := by unfold intL; rw [if_neg hb]
    rw [F]
    unfold maxInt at hb
    rw [← hval] at hb
    have HB := Lib.hid hb
    have AA := Lib.hid had
    have HV := Lib.hid hval
    clear hb had hval F
    go_enter Tryz.func112, Tryz.ntmps112
    go_wp2_with fail
    refine (digits2 p c k s _ (H.out.alloc _) hs).mono ?_
    have Z := Lib.hid (TokZ.new w)
    have B := Lib.hid (show Below w.heap.size w (w.alloc (.cells #[.int .i64 0, .string ⟨#[]⟩, .int .i64 0, .bool false, .int .i64 0, .int .i64 0, .int .i64 0] 50)) from (Below.refl _ _).alloc (Nat.le_refl _) _)
    generalize w.alloc (.cells #[.int .i64 0, .string ⟨#[]⟩, .int .i64 0, .bool false, .int .i64 0, .int .i64 0, .int .i64 0] 50) = w0 at Z B
    rintro e w1 ⟨rfl, c1, o1⟩
    have O1 := Lib.hid (o1.from B.out)
    have C1 := Lib.hid c1
    have Z1 := Lib.hid (Z.out.only o1 (by omega))
    obtain ⟨g0, g1, g2, g3, g4, g5, g6, gf⟩ := Z1.out.facts
    clear c1 o1 Z B
    go_wp2_with fail
    refine (number_ok _ _ (by omega) AA.out (by have := HB.out; omega)).mono ?_
    rw [HV.out]
    rintro e w2 ⟨rfl, rfl⟩
    go_wp2_with fail
    exact bodyPost_ret (v := .tuple #[tokV ⟨3, [], valL ((s.data.toList.drop k).takeWhile isDig), ((s.data.toList.drop k).takeWhile isDig).length, 0⟩, .int .i64 0]) (by simp [results, Tryz.results112, go_sem, tokV, g0, g1, g2, g3, g4, g5, g6]) rfl (post7 (f := ⟨3, [], valL ((s.data.toList.drop k).takeWhile isDig), ((s.data.toList.drop k).takeWhile isDig).length, 0⟩) (Nat.le_refl _) (by omega) O1.out (fun _ => C1.out) _ _ _ _ _ _ _)
theorem skipA (a : ByteArray) (k : Nat) (s : ByteArray) (h : Lib.hasPrefix (s.data.toList.drop k) a.data.toList = true) : skipN (a.size : Int) k s = a.size := by
  have hl := hp_len h
  rw [List.length_drop, len_size, len_size] at hl
  unfold skipN; omega
set_option maxHeartbeats 400000 in
theorem take_yes (p c k : Nat) (s a : ByteArray) (w : World) (h : ScAt w p c s k) (hs : s.size ≤ maxLen) (hp : Lib.hasPrefix (s.data.toList.drop k) a.data.toList = true) :
    Calls Tryz.prog 122 #[.pointer (some ⟨p, 0, none⟩), .string a] w fun e w' => e = .returned (.bool true) ∧ CurAt w' c s (k + a.size) ∧ Only c w w' := by
  have hB := fun w1 hw => begins2 p c k s a w1 hw
  rw [hp] at hB
  have HB := Lib.hid hB
  have SK := Lib.hid (skipA a k s hp)
  have hl := hp_len hp
  rw [List.length_drop, len_size, len_size] at hl
  have H := Lib.hid h
  clear h hp hB
  go_enter Tryz.func122, Tryz.ntmps122
  go_wp2_with fail
  refine (HB.out _ H.out).mono ?_
  rintro e w1 ⟨rfl, b1⟩
  have H1 := Lib.hid (H.out.below b1)
  have O1 := Lib.hid (Only.ofBelow (b := c) b1 (Nat.le_refl _))
  have h01 := H1.out.c0
  clear b1
  go_wp2_with fail
  refine (skip_any c k (a.size : Int) s _ H1.out.cur hs).mono ?_
  rw [SK.out]
  rintro e w2 ⟨rfl, c2, o2⟩
  have C2 := Lib.hid c2
  have O2 := Lib.hid (O1.out.trans o2)
  clear c2 o2 h01
  go_wp2_with fail
  go_ret
  exact ⟨rfl, C2.out, O2.out⟩
set_option maxHeartbeats 400000 in
theorem take_no (p c k : Nat) (s a : ByteArray) (w : World) (h : ScAt w p c s k) (hp : Lib.hasPrefix (s.data.toList.drop k) a.data.toList = false) :
    Calls Tryz.prog 122 #[.pointer (some ⟨p, 0, none⟩), .string a] w fun e w' => e = .returned (.bool false) ∧ Below w.heap.size w w' := by
  have hB := fun w1 hw => begins2 p c k s a w1 hw
  rw [hp] at hB
  have HB := Lib.hid hB
  have H := Lib.hid h
  clear h hp hB
  go_enter Tryz.func122, Tryz.ntmps122
  go_wp2_with fail
  refine (HB.out _ H.out).mono ?_
  rintro e w1 ⟨rfl, b1⟩
  have B1 := Lib.hid b1
  clear b1
  go_wp2_with fail
  go_ret
  exact ⟨rfl, B1.out⟩
end Go.Proofs.YtpcldpnaljheoaaGreatDoor.X.P
end
section
namespace Go.Proofs.YtpcldpnaljheoaaGreatDoor.X.P
open Go.RowKit Go.Sort

theorem ba_len (l : List UInt8) : (ByteArray.mk l.toArray).size = l.length := by
  have := len_size (ByteArray.mk l.toArray)
  simpa using this.symm
/-- What a reader leaves that makes memory alone. -/
def TokB (f : Fd) (w : World) (e : Ending) (w' : World) : Prop := e = .returned (.tuple #[tokV f, .int .i64 (f.err : Nat)]) ∧ Below w.heap.size w w'
theorem set7_below {w w1 : World} {b : Nat} (hb : w.heap.size ≤ b) (ho : Below w.heap.size w w1) (v0 v1 v2 v3 v4 v5 v6 : Value) : Below w.heap.size w (set7 w1 b v0 v1 v2 v3 v4 v5 v6) :=
  ((((((ho.setCell hb v0).setCell hb v1).setCell hb v2).setCell hb v3).setCell hb v4).setCell hb v5).setCell hb v6
theorem post7b {w w1 : World} {b : Nat} {f : Fd} (hb : w.heap.size ≤ b) (ho : Below w.heap.size w w1) (v0 v1 v2 v3 v4 v5 v6 : Value) :
    TokB f w (.returned (.tuple #[tokV f, .int .i64 (f.err : Nat)])) (set7 w1 b v0 v1 v2 v3 v4 v5 v6) := ⟨rfl, set7_below hb ho _ _ _ _ _ _ _⟩
theorem nameL_long (nm : List UInt8) (h : 32 < nm.length) : nameL nm = bad 3 := by unfold nameL; rw [if_pos h]
theorem nameL_word (nm : List UInt8) (h : ¬ 32 < nm.length) (hw : isIn ⟨(nm.map Lib.lowerB).toArray⟩ (wordsOf 0) = true) : nameL nm = ⟨2, nm.map Lib.lowerB, 0, nm.length, 0⟩ := by unfold nameL nameK; rw [if_neg h, if_pos hw]
theorem nameL_name (nm : List UInt8) (h : ¬ 32 < nm.length) (hw : isIn ⟨(nm.map Lib.lowerB).toArray⟩ (wordsOf 0) = false) : nameL nm = ⟨1, nm.map Lib.lowerB, 0, nm.length, 0⟩ := by unfold nameL nameK; rw [if_neg h, hw, if_neg (by decide)]
theorem nameP_long {ps : List ByteArray} (h : ps.any longB = true) (d : Int) : nameP ps d = bad 3 := by unfold nameP; rw [if_pos h]
theorem nameP_word {ps : List ByteArray} {d : Int} (h : ps.any longB = false) (hw : isIn ⟨(joinP ps).toArray⟩ (wordsOf d) = true) : nameP ps d = ⟨2, joinP ps, 0, (joinP ps).length, 0⟩ := by unfold nameP; rw [h, if_neg (by decide), if_pos hw]
theorem nameP_name {ps : List ByteArray} {d : Int} (h : ps.any longB = false) (hw : isIn ⟨(joinP ps).toArray⟩ (wordsOf d) = false) : nameP ps d = ⟨1, joinP ps, 0, (joinP ps).length, 0⟩ := by unfold nameP; rw [h, if_neg (by decide), hw, if_neg (by decide)]
theorem any_take {ps : List ByteArray} {k : Nat} {x : ByteArray} (hx : ps[k]? = some x) (h : (ps.take k).any longB = false) (hl : longB x = false) : (ps.take (k + 1)).any longB = false := by
  rw [List.take_add_one, hx, List.any_append, h]; simpa using hl
theorem any_hit {ps : List ByteArray} {k : Nat} {x : ByteArray} (hx : ps[k]? = some x) (hl : longB x = true) : ps.any longB = true := by
  rw [List.any_eq_true]; exact ⟨x, List.mem_of_getElem? hx, hl⟩
set_option maxHeartbeats 2000000 in
theorem name_tok (p c k : Nat) (s : ByteArray) (ps : List ByteArray) (a : Option Addr) (len cap : Nat) (w : World) (h : ScAt w p c s k) (hS : IsStrs w a len cap ps) (hn : 0 < len) (hlen : len ≤ 1000000) (hl : (joinP ps).length ≤ 1000000) :
    Calls Tryz.prog 75 #[.pointer (some ⟨p, 0, none⟩), .slice a len cap] w (TokB (nameP ps 0) w) := by
  have hlt := h.lt
  have H := Lib.hid h
  have HS := Lib.hid hS
  have hcap := hS.len_le
  clear h hS
  generalize hf : nameP ps 0 = f
  have HF := Lib.hid hf
  clear hf
  go_enter Tryz.func75, Tryz.ntmps75
  go_wp2_with fail
  have Z := Lib.hid (TokZ.new w)
  have B := Lib.hid (show Below w.heap.size w (w.alloc (.cells #[.int .i64 0, .string ⟨#[]⟩, .int .i64 0, .bool false, .int .i64 0, .int .i64 0, .int .i64 0] 50)) from (Below.refl _ _).alloc (Nat.le_refl _) _)
  have H0 := Lib.hid (H.out.alloc (.cells #[.int .i64 0, .string ⟨#[]⟩, .int .i64 0, .bool false, .int .i64 0, .int .i64 0, .int .i64 0] 50))
  have S0 := Lib.hid (HS.out.below B.out)
  generalize w.alloc (.cells #[.int .i64 0, .string ⟨#[]⟩, .int .i64 0, .bool false, .int .i64 0, .int .i64 0, .int .i64 0] 50) = w0 at Z B H0 S0 ⊢
  have h1 := H0.out.c1
  clear H HS
  go_loop [11] (fun i => ∃ k : Nat, k ≤ len ∧ i = .int .i64 k ∧ (ps.take k).any longB = false) (fun i => len - (intOf i).toNat)
  case atStart => exact ⟨0, Nat.zero_le _, rfl, rfl⟩
  case round =>
    obtain ⟨k, hk, rfl, hno⟩ := hrel
    have HN := Lib.hid hno
    clear hno
    by_cases hlt2 : k < len
    · obtain ⟨b, o, x, rfl, hx, hxs, hc⟩ := S0.out.at hlt2
      have HX := Lib.hid hx
      clear hx
      cases hb : longB x with
      | true =>
        have d1 : decide ((32 : Int) < (x.size : Int)) = true := by unfold longB at hb; simp at hb ⊢; omega
        obtain rfl : f = bad 3 := by rw [← HF.out]; exact nameP_long (any_hit HX.out hb) 0
        obtain ⟨g0, g1, g2, g3, g4, g5, g6, gf⟩ := Z.out.facts
        clear hb h1
        go_wp2_with fail
        exact bodyPost_ret (v := .tuple #[tokV (bad 3), .int .i64 3]) (by simp [results, Tryz.results75, go_sem, tokV, bad, g0, g1, g2, g3, g4, g5, g6]) rfl (post7b (f := bad 3) (Nat.le_refl _) B.out _ _ _ _ _ _ _)
      | false =>
        have d1 : decide ((32 : Int) < (x.size : Int)) = false := by unfold longB at hb; simp at hb ⊢; omega
        have HT := Lib.hid (any_take HX.out HN.out hb)
        clear hb h1
        go_wp2_with fail
        go_round
        case rel => exact ⟨k + 1, by omega, by go_num, HT.out⟩
        case measure => simp [intOf]; omega
    · have hno : ps.any longB = false := by rw [← HN.out, List.take_of_length_le (by rw [S0.out.1]; omega)]
      obtain ⟨bk, o, hA, hbk, hcells⟩ : ∃ bk o, a = some ⟨bk, o, none⟩ ∧ bk < w0.heap.size ∧ ∀ j x, ps[j]? = some x → w0.cell? ⟨bk, o + j, none⟩ = some (.string x) := by
        rcases S0.out.2.2.2.2 with h00 | ⟨b, o, e1, e2, e3⟩
        · omega
        · exact ⟨b, o, e1, e2, e3⟩
      have hz := S0.out.1
      have hcl := S0.out.2.1
      subst hA
      subst hz
      have hJ := Tryz.strings_Join bk o cap ps ⟨#[36]⟩ w0 hcells hbk (by omega) hcl (by show (joinP ps).length ≤ _; omega)
      have HJ := Lib.hid (show Calls Tryz.prog 114 #[.slice (some ⟨bk, o, none⟩) ps.length cap, .string ⟨#[36]⟩] w0 fun e w' => e = .returned (.string ⟨(joinP ps).toArray⟩) ∧ Below w0.heap.size w0 w' from hJ)
      have hjz : (ByteArray.mk (joinP ps).toArray).size = (joinP ps).length := ba_len _
      have hI := fun w1 => is_any 0 ⟨(joinP ps).toArray⟩ w1
      clear hJ hcells hbk h1
      cases hw : isIn ⟨(joinP ps).toArray⟩ (wordsOf 0) with
      | true =>
        rw [hw] at hI
        have HI := Lib.hid hI
        obtain rfl : f = ⟨2, joinP ps, 0, (joinP ps).length, 0⟩ := by rw [← HF.out]; exact nameP_word hno hw
        clear hI hw hno
        obtain ⟨t, ht⟩ : ∃ t, t = (ByteArray.mk (joinP ps).toArray) := ⟨_, rfl⟩
        rw [← ht] at HI HJ hjz
        have HT := Lib.hid ht
        clear ht
        go_wp2_with fail
        refine HJ.out.mono ?_
        rintro e w1 ⟨rfl, b1⟩
        have B1 := Lib.hid (B.out.trans (b1.mono B.out.size))
        have Z1 := Lib.hid (Z.out.below b1)
        have H1 := Lib.hid (H0.out.below b1)
        have h11 := H1.out.c1
        clear b1
        go_wp2_with fail
        refine (HI.out _).mono ?_
        rintro e w2 ⟨rfl, b2⟩
        have B2 := Lib.hid (B1.out.trans (b2.mono B1.out.size))
        have Z2 := Lib.hid (Z1.out.below b2)
        obtain ⟨g0, g1, g2, g3, g4, g5, g6, gf⟩ := Z2.out.facts
        clear b2 h11
        go_wp2_with fail
        exact bodyPost_ret (v := .tuple #[tokV ⟨2, joinP ps, 0, (joinP ps).length, 0⟩, .int .i64 0]) (by rw [HT.out]; simp [results, Tryz.results75, go_sem, tokV, g0, g1, g2, g3, g4, g5, g6]) rfl (post7b (f := ⟨2, joinP ps, 0, (joinP ps).length, 0⟩) (Nat.le_refl _) B2.out _ _ _ _ _ _ _)
      | false =>
        rw [hw] at hI
        have HI := Lib.hid hI
        obtain rfl : f = ⟨1, joinP ps, 0, (joinP ps).length, 0⟩ := by rw [← HF.out]; exact nameP_name hno hw
        clear hI hw hno
        obtain ⟨t, ht⟩ : ∃ t, t = (ByteArray.mk (joinP ps).toArray) := ⟨_, rfl⟩
        rw [← ht] at HI HJ hjz
        have HT := Lib.hid ht
        clear ht
        go_wp2_with fail
        refine HJ.out.mono ?_
        rintro e w1 ⟨rfl, b1⟩
        have B1 := Lib.hid (B.out.trans (b1.mono B.out.size))
        have Z1 := Lib.hid (Z.out.below b1)
        have H1 := Lib.hid (H0.out.below b1)
        have h11 := H1.out.c1
        clear b1
        go_wp2_with fail
        refine (HI.out _).mono ?_
        rintro e w2 ⟨rfl, b2⟩
        have B2 := Lib.hid (B1.out.trans (b2.mono B1.out.size))
        have Z2 := Lib.hid (Z1.out.below b2)
        obtain ⟨g0, g1, g2, g3, g4, g5, g6, gf⟩ := Z2.out.facts
        clear b2 h11
        go_wp2_with fail
        exact bodyPost_ret (v := .tuple #[tokV ⟨1, joinP ps, 0, (joinP ps).length, 0⟩, .int .i64 0]) (by rw [HT.out]; simp [results, Tryz.results75, go_sem, tokV, g0, g1, g2, g3, g4, g5, g6]) rfl (post7b (f := ⟨1, joinP ps, 0, (joinP ps).length, 0⟩) (Nat.le_refl _) B2.out _ _ _ _ _ _ _)
theorem bt_out (s : ByteArray) (k : Nat) (h : s.size ≤ k) : bt s k = 0 := by
  unfold bt
  rw [List.getD_eq_getElem?_getD, List.getElem?_eq_none (by rw [len_size]; exact h)]; rfl
theorem peek_bt (b k i : Nat) (s : ByteArray) (w : World) (hc : CurAt w b s k) (hs : s.size ≤ maxLen) :
    Calls Tryz.prog 107 #[.pointer (some ⟨b, 0, none⟩), .int .i64 (i : Int)] w fun e w' => e = .returned (.tuple #[.int .u8 (bt s (k + i)).toNat, .bool (decide (k + i < s.size))]) ∧ ∃ n, w' = w.drewN n := by
  have hle := hc.le
  by_cases h : k + i < s.size
  · have := peek_in b k (i : Int) s w hc.c0 hc.c1 hs hc.le (by omega) (by omega)
    rw [Int.toNat_natCast] at this
    rw [decide_eq_true h]
    exact this
  · have := peek_out b k (i : Int) s w hc.c0 hc.c1 hs hc.le (by omega) (by omega)
    rw [decide_eq_false h, bt_out s (k + i) (by omega)]
    exact this
theorem getD_drop (s : ByteArray) (k i : Nat) : (s.data.toList.drop k).getD i 0 = bt s (k + i) := by
  unfold bt
  simp [List.getD_eq_getElem?_getD]
/-- A char between quotes. -/
def quote1 (s : ByteArray) (k : Nat) : Fd := if (visB (bt s (k + 1)) && bt s (k + 2) == 39) = true then ⟨4, [], (bt s (k + 1)).toNat, 3, 0⟩ else bad 7
theorem q39 (c : UInt8) : (ByteArray.mk #[39]).data.toList.contains c = (c == 39) := by simp [Bool.beq_eq_decide_eq]
set_option maxHeartbeats 2000000 in
theorem quoted1_tok (p c k : Nat) (s : ByteArray) (w : World) (h : ScAt w p c s k) (hs : s.size ≤ maxLen) :
    Calls Tryz.prog 124 #[.pointer (some ⟨p, 0, none⟩), .string ⟨#[]⟩] w (TokPost c s k (quote1 s k) w) := by
  have h0 := h.c0
  have hcl := h.cur.lt
  have C := Lib.hid h.cur
  have hpl := h.lt
  have H := Lib.hid h
  have P1 := Lib.hid fun w1 hc => peek_bt c k 1 s w1 hc hs
  have P2 := Lib.hid fun w1 hc => peek_bt c k 2 s w1 hc hs
  have O1 := fun w1 => oneOf_any ⟨#[39]⟩ (bt s (k + 1)) w1
  have O2 := fun w1 => oneOf_any ⟨#[39]⟩ (bt s (k + 2)) w1
  rw [q39] at O1 O2
  clear h
  by_cases h1 : (bt s (k + 1)).toNat < 32
  · have F : quote1 s k = bad 7 := by unfold quote1 visB; rw [decide_eq_false (show ¬ 32 ≤ (bt s (k + 1)).toNat by omega)]; rfl
    rw [F]
    have d1 : decide (((bt s (k + 1)).toNat : Int) < 32) = true := by simp; omega
    clear F
    have HO1 := Lib.hid O1
    have HO2 := Lib.hid O2
    clear O1 O2
    go_enter Tryz.func124, Tryz.ntmps124
    go_wp2_with fail
    refine (P1.out _ (H.out.alloc _).cur).mono ?_
    have h0' := (H.out.alloc (.cells #[.int .i64 0, .string ⟨#[]⟩, .int .i64 0, .bool false, .int .i64 0, .int .i64 0, .int .i64 0] 50)).c0
    have Z := Lib.hid (TokZ.new w)
    have B := Lib.hid (show Below w.heap.size w (w.alloc (.cells #[.int .i64 0, .string ⟨#[]⟩, .int .i64 0, .bool false, .int .i64 0, .int .i64 0, .int .i64 0] 50)) from (Below.refl _ _).alloc (Nat.le_refl _) _)
    have CU := Lib.hid (H.out.alloc (.cells #[.int .i64 0, .string ⟨#[]⟩, .int .i64 0, .bool false, .int .i64 0, .int .i64 0, .int .i64 0] 50)).cur
    generalize w.alloc (.cells #[.int .i64 0, .string ⟨#[]⟩, .int .i64 0, .bool false, .int .i64 0, .int .i64 0, .int .i64 0] 50) = w0 at Z B CU h0'
    rintro e w1 ⟨rfl, n1, rfl⟩
    clear h0
    go_wp2_with fail
    refine (P2.out _ (CU.out.drewN n1)).mono ?_
    rintro e w2 ⟨rfl, n2, hw2⟩
    have h02 : w2.cell? ⟨p, 0, none⟩ = some (.pointer (some ⟨c, 0, none⟩)) := by rw [hw2]; exact h0'
    have Z2 := Lib.hid (show TokZ w2 w.heap.size by rw [hw2]; exact ⟨Z.out.blk⟩)
    have CU2 := Lib.hid (show CurAt w2 c s k by rw [hw2]; exact (CU.out.drewN n1).drewN n2)
    have OO := Lib.hid (show Only c w w2 by rw [hw2]; exact (((Only.refl c w0).drewN n1).drewN n2).from B.out)
    obtain ⟨g0, g1, g2, g3, g4, g5, g6, gf⟩ := Z2.out.facts
    clear hw2 Z CU h0' B
    go_wp2_with fail
    exact bodyPost_ret (v := .tuple #[tokV (bad 7), .int .i64 7]) (by simp [results, Tryz.results124, go_sem, tokV, bad, g0, g1, g2, g3, g4, g5, g6]) rfl (post7 (f := bad 7) (Nat.le_refl _) (by omega) OO.out (fun h => by cases h) _ _ _ _ _ _ _)
  · have d1 : decide (((bt s (k + 1)).toNat : Int) < 32) = false := by simp; omega
    by_cases h2 : 126 < (bt s (k + 1)).toNat
    · have F : quote1 s k = bad 7 := by unfold quote1 visB; rw [decide_eq_false (show ¬ (bt s (k + 1)).toNat ≤ 126 by omega)]; simp
      rw [F]
      have d2 : decide ((126 : Int) < ((bt s (k + 1)).toNat : Int)) = true := by simp; omega
      clear F
      have HO1 := Lib.hid O1
      have HO2 := Lib.hid O2
      clear O1 O2
      go_enter Tryz.func124, Tryz.ntmps124
      go_wp2_with fail
      refine (P1.out _ (H.out.alloc _).cur).mono ?_
      have h0' := (H.out.alloc (.cells #[.int .i64 0, .string ⟨#[]⟩, .int .i64 0, .bool false, .int .i64 0, .int .i64 0, .int .i64 0] 50)).c0
      have Z := Lib.hid (TokZ.new w)
      have B := Lib.hid (show Below w.heap.size w (w.alloc (.cells #[.int .i64 0, .string ⟨#[]⟩, .int .i64 0, .bool false, .int .i64 0, .int .i64 0, .int .i64 0] 50)) from (Below.refl _ _).alloc (Nat.le_refl _) _)
      have CU := Lib.hid (H.out.alloc (.cells #[.int .i64 0, .string ⟨#[]⟩, .int .i64 0, .bool false, .int .i64 0, .int .i64 0, .int .i64 0] 50)).cur
      generalize w.alloc (.cells #[.int .i64 0, .string ⟨#[]⟩, .int .i64 0, .bool false, .int .i64 0, .int .i64 0, .int .i64 0] 50) = w0 at Z B CU h0'
      rintro e w1 ⟨rfl, n1, rfl⟩
      clear h0
      go_wp2_with fail
      refine (P2.out _ (CU.out.drewN n1)).mono ?_
      rintro e w2 ⟨rfl, n2, hw2⟩
      have h02 : w2.cell? ⟨p, 0, none⟩ = some (.pointer (some ⟨c, 0, none⟩)) := by rw [hw2]; exact h0'
      have Z2 := Lib.hid (show TokZ w2 w.heap.size by rw [hw2]; exact ⟨Z.out.blk⟩)
      have CU2 := Lib.hid (show CurAt w2 c s k by rw [hw2]; exact (CU.out.drewN n1).drewN n2)
      have OO := Lib.hid (show Only c w w2 by rw [hw2]; exact (((Only.refl c w0).drewN n1).drewN n2).from B.out)
      obtain ⟨g0, g1, g2, g3, g4, g5, g6, gf⟩ := Z2.out.facts
      clear hw2 Z CU h0' B
      go_wp2_with fail
      exact bodyPost_ret (v := .tuple #[tokV (bad 7), .int .i64 7]) (by simp [results, Tryz.results124, go_sem, tokV, bad, g0, g1, g2, g3, g4, g5, g6]) rfl (post7 (f := bad 7) (Nat.le_refl _) (by omega) OO.out (fun h => by cases h) _ _ _ _ _ _ _)
    · have d2 : decide ((126 : Int) < ((bt s (k + 1)).toNat : Int)) = false := by simp; omega
      cases h3 : bt s (k + 1) == 39 with
      | true =>
        have F : quote1 s k = bad 7 := by unfold quote1 visB; rw [h3]; simp
        rw [F]
        rw [h3] at O1
        clear F
        have HO1 := Lib.hid O1
        have HO2 := Lib.hid O2
        clear O1 O2
        go_enter Tryz.func124, Tryz.ntmps124
        go_wp2_with fail
        refine (P1.out _ (H.out.alloc _).cur).mono ?_
        have h0' := (H.out.alloc (.cells #[.int .i64 0, .string ⟨#[]⟩, .int .i64 0, .bool false, .int .i64 0, .int .i64 0, .int .i64 0] 50)).c0
        have Z := Lib.hid (TokZ.new w)
        have B := Lib.hid (show Below w.heap.size w (w.alloc (.cells #[.int .i64 0, .string ⟨#[]⟩, .int .i64 0, .bool false, .int .i64 0, .int .i64 0, .int .i64 0] 50)) from (Below.refl _ _).alloc (Nat.le_refl _) _)
        have CU := Lib.hid (H.out.alloc (.cells #[.int .i64 0, .string ⟨#[]⟩, .int .i64 0, .bool false, .int .i64 0, .int .i64 0, .int .i64 0] 50)).cur
        generalize w.alloc (.cells #[.int .i64 0, .string ⟨#[]⟩, .int .i64 0, .bool false, .int .i64 0, .int .i64 0, .int .i64 0] 50) = w0 at Z B CU h0'
        rintro e w1 ⟨rfl, n1, rfl⟩
        clear h0
        go_wp2_with fail
        refine (P2.out _ (CU.out.drewN n1)).mono ?_
        rintro e w2 ⟨rfl, n2, hw2⟩
        have h02 : w2.cell? ⟨p, 0, none⟩ = some (.pointer (some ⟨c, 0, none⟩)) := by rw [hw2]; exact h0'
        have Z2 := Lib.hid (show TokZ w2 w.heap.size by rw [hw2]; exact ⟨Z.out.blk⟩)
        have CU2 := Lib.hid (show CurAt w2 c s k by rw [hw2]; exact (CU.out.drewN n1).drewN n2)
        have OO := Lib.hid (show Only c w w2 by rw [hw2]; exact (((Only.refl c w0).drewN n1).drewN n2).from B.out)
        obtain ⟨g0, g1, g2, g3, g4, g5, g6, gf⟩ := Z2.out.facts
        clear hw2 Z CU h0' B
        go_wp2_with fail
        refine (HO1.out _).mono ?_
        rintro e w3 ⟨rfl, rfl⟩
        go_wp2_with fail
        exact bodyPost_ret (v := .tuple #[tokV (bad 7), .int .i64 7]) (by simp [results, Tryz.results124, go_sem, tokV, bad, g0, g1, g2, g3, g4, g5, g6]) rfl (post7 (f := bad 7) (Nat.le_refl _) (by omega) OO.out (fun h => by cases h) _ _ _ _ _ _ _)
      | false =>
        rw [h3] at O1
        cases h4 : bt s (k + 2) == 39 with
        | false =>
          have F : quote1 s k = bad 7 := by unfold quote1; rw [h4]; simp
          rw [F]
          rw [h4] at O2
          clear F
          have HO1 := Lib.hid O1
          have HO2 := Lib.hid O2
          clear O1 O2
          go_enter Tryz.func124, Tryz.ntmps124
          go_wp2_with fail
          refine (P1.out _ (H.out.alloc _).cur).mono ?_
          have h0' := (H.out.alloc (.cells #[.int .i64 0, .string ⟨#[]⟩, .int .i64 0, .bool false, .int .i64 0, .int .i64 0, .int .i64 0] 50)).c0
          have Z := Lib.hid (TokZ.new w)
          have B := Lib.hid (show Below w.heap.size w (w.alloc (.cells #[.int .i64 0, .string ⟨#[]⟩, .int .i64 0, .bool false, .int .i64 0, .int .i64 0, .int .i64 0] 50)) from (Below.refl _ _).alloc (Nat.le_refl _) _)
          have CU := Lib.hid (H.out.alloc (.cells #[.int .i64 0, .string ⟨#[]⟩, .int .i64 0, .bool false, .int .i64 0, .int .i64 0, .int .i64 0] 50)).cur
          generalize w.alloc (.cells #[.int .i64 0, .string ⟨#[]⟩, .int .i64 0, .bool false, .int .i64 0, .int .i64 0, .int .i64 0] 50) = w0 at Z B CU h0'
          rintro e w1 ⟨rfl, n1, rfl⟩
          clear h0
          go_wp2_with fail
          refine (P2.out _ (CU.out.drewN n1)).mono ?_
          rintro e w2 ⟨rfl, n2, hw2⟩
          have h02 : w2.cell? ⟨p, 0, none⟩ = some (.pointer (some ⟨c, 0, none⟩)) := by rw [hw2]; exact h0'
          have Z2 := Lib.hid (show TokZ w2 w.heap.size by rw [hw2]; exact ⟨Z.out.blk⟩)
          have CU2 := Lib.hid (show CurAt w2 c s k by rw [hw2]; exact (CU.out.drewN n1).drewN n2)
          have OO := Lib.hid (show Only c w w2 by rw [hw2]; exact (((Only.refl c w0).drewN n1).drewN n2).from B.out)
          obtain ⟨g0, g1, g2, g3, g4, g5, g6, gf⟩ := Z2.out.facts
          clear hw2 Z CU h0' B
          go_wp2_with fail
          refine (HO1.out _).mono ?_
          rintro e w3 ⟨rfl, rfl⟩
          go_wp2_with fail
          refine (HO2.out _).mono ?_
          rintro e w3 ⟨rfl, rfl⟩
          go_wp2_with fail
          exact bodyPost_ret (v := .tuple #[tokV (bad 7), .int .i64 7]) (by simp [results, Tryz.results124, go_sem, tokV, bad, g0, g1, g2, g3, g4, g5, g6]) rfl (post7 (f := bad 7) (Nat.le_refl _) (by omega) OO.out (fun h => by cases h) _ _ _ _ _ _ _)
        | true =>
          have F : quote1 s k = ⟨4, [], (bt s (k + 1)).toNat, 3, 0⟩ := by unfold quote1 visB; rw [h4, h3, decide_eq_true (show 32 ≤ (bt s (k + 1)).toNat by omega), decide_eq_true (show (bt s (k + 1)).toNat ≤ 126 by omega)]; rfl
          rw [F]
          rw [h4] at O2
          have hin : k + 2 < s.size := by
            rcases Nat.lt_or_ge (k + 2) s.size with g | g
            · exact g
            · rw [bt_out s (k + 2) g] at h4; cases h4
          clear F
          have HO1 := Lib.hid O1
          have HO2 := Lib.hid O2
          clear O1 O2
          go_enter Tryz.func124, Tryz.ntmps124
          go_wp2_with fail
          refine (P1.out _ (H.out.alloc _).cur).mono ?_
          have h0' := (H.out.alloc (.cells #[.int .i64 0, .string ⟨#[]⟩, .int .i64 0, .bool false, .int .i64 0, .int .i64 0, .int .i64 0] 50)).c0
          have Z := Lib.hid (TokZ.new w)
          have B := Lib.hid (show Below w.heap.size w (w.alloc (.cells #[.int .i64 0, .string ⟨#[]⟩, .int .i64 0, .bool false, .int .i64 0, .int .i64 0, .int .i64 0] 50)) from (Below.refl _ _).alloc (Nat.le_refl _) _)
          have CU := Lib.hid (H.out.alloc (.cells #[.int .i64 0, .string ⟨#[]⟩, .int .i64 0, .bool false, .int .i64 0, .int .i64 0, .int .i64 0] 50)).cur
          generalize w.alloc (.cells #[.int .i64 0, .string ⟨#[]⟩, .int .i64 0, .bool false, .int .i64 0, .int .i64 0, .int .i64 0] 50) = w0 at Z B CU h0'
          rintro e w1 ⟨rfl, n1, rfl⟩
          clear h0
          go_wp2_with fail
          refine (P2.out _ (CU.out.drewN n1)).mono ?_
          rintro e w2 ⟨rfl, n2, hw2⟩
          have h02 : w2.cell? ⟨p, 0, none⟩ = some (.pointer (some ⟨c, 0, none⟩)) := by rw [hw2]; exact h0'
          have Z2 := Lib.hid (show TokZ w2 w.heap.size by rw [hw2]; exact ⟨Z.out.blk⟩)
          have CU2 := Lib.hid (show CurAt w2 c s k by rw [hw2]; exact (CU.out.drewN n1).drewN n2)
          have OO := Lib.hid (show Only c w w2 by rw [hw2]; exact (((Only.refl c w0).drewN n1).drewN n2).from B.out)
          obtain ⟨g0, g1, g2, g3, g4, g5, g6, gf⟩ := Z2.out.facts
          clear hw2 Z CU h0' B
          go_wp2_with fail
          refine (HO1.out _).mono ?_
          rintro e w3 ⟨rfl, rfl⟩
          go_wp2_with fail
          refine (HO2.out _).mono ?_
          rintro e w3 ⟨rfl, rfl⟩
          go_wp2_with fail
          refine (skip_any c k 3 s _ CU2.out hs).mono ?_
          rw [show skipN 3 k s = 3 by unfold skipN; omega]
          rintro e w4 ⟨rfl, c4, o4⟩
          have C4 := Lib.hid c4
          have O4 := Lib.hid (OO.out.trans o4)
          have Z4 := Lib.hid (Z2.out.only o4 (by omega))
          clear c4 o4 Z2 OO CU2 h02 g0 g1 g2 g3 g4 g5 g6 gf
          go_wp2_with fail
          refine (char_any _ _).mono ?_
          rintro e w5 ⟨rfl, b5⟩
          have Z5 := Lib.hid (Z4.out.below b5)
          have O5 := Lib.hid (O4.out.belowR b5)
          have C5 := Lib.hid (C4.out.stays (b5.block c C4.out.lt))
          obtain ⟨g0, g1, g2, g3, g4, g5, g6, gf⟩ := Z5.out.facts
          clear b5 Z4 O4 C4
          go_wp2_with fail
          exact bodyPost_ret (v := .tuple #[tokV ⟨4, [], (bt s (k + 1)).toNat, 3, 0⟩, .int .i64 0]) (by simp [results, Tryz.results124, go_sem, tokV, g0, g1, g2, g3, g4, g5, g6]) rfl (post7 (f := ⟨4, [], (bt s (k + 1)).toNat, 3, 0⟩) (Nat.le_refl _) (by omega) O5.out (fun _ => C5.out) _ _ _ _ _ _ _)
end Go.Proofs.YtpcldpnaljheoaaGreatDoor.X.P
end
section
namespace Go.Proofs.YtpcldpnaljheoaaGreatDoor.X.P
open Go.RowKit Go.Sort

def lstep (l acc g : List UInt8) : List UInt8 := if (decide (acc.length < g.length) && Lib.hasPrefix l g) = true then g else acc
/-- The longest that fits, one behind the other. -/
def lon (l : List UInt8) (gs : List (List UInt8)) : List UInt8 := gs.foldl (lstep l) []
theorem lon_snoc (l : List UInt8) (gs : List (List UInt8)) (g : List UInt8) : lon l (gs ++ [g]) = lstep l (lon l gs) g := by simp [lon]
theorem fold_keep (l acc : List UInt8) : ∀ gs : List (List UInt8), (∀ g ∈ gs, g.length ≤ acc.length) → gs.foldl (lstep l) acc = acc
  | [], _ => rfl
  | g :: r, h => by
    have h1 := h g (by simp)
    rw [List.foldl_cons, show lstep l acc g = acc by unfold lstep; rw [decide_eq_false (by omega)]; rfl]
    exact fold_keep l acc r fun x hx => h x (by simp [hx])
theorem lon_find (l : List UInt8) : ∀ gs : List (List UInt8), gs.Pairwise (fun a b => b.length ≤ a.length) → (∀ g ∈ gs, 1 ≤ g.length) → lon l gs = (gs.find? fun g => Lib.hasPrefix l g).getD []
  | [], _, _ => rfl
  | g :: r, hp, h1 => by
    unfold lon
    rw [List.foldl_cons, List.find?_cons]
    have hg := h1 g (by simp)
    cases hb : Lib.hasPrefix l g with
    | true =>
      rw [show lstep l [] g = g by unfold lstep; rw [hb, decide_eq_true (by simp; omega)]; rfl]
      rw [fold_keep l g r (List.pairwise_cons.1 hp).1]
      rfl
    | false =>
      rw [show lstep l [] g = [] by unfold lstep; rw [hb]; simp]
      exact lon_find l r (List.pairwise_cons.1 hp).2 fun x hx => h1 x (by simp [hx])
theorem signs_pair : signs.Pairwise (fun a b => b.length ≤ a.length) := by decide
theorem signs_pos : ∀ g ∈ signs, 1 ≤ g.length := by decide
theorem lon_signs (l : List UInt8) : lon l signs = (signs.find? fun g => Lib.hasPrefix l g).getD [] := lon_find l signs signs_pair signs_pos
theorem signL_eq (l : List UInt8) : signL l = if lon l signs = [] then bad 5 else ⟨5, lon l signs, 0, (lon l signs).length, 0⟩ := by
  rw [lon_signs]
  unfold signL
  cases h : signs.find? fun g => Lib.hasPrefix l g with
  | none => rfl
  | some g =>
    have := signs_pos g (List.mem_of_find?_eq_some h)
    simp only [Option.getD_some]
    rw [if_neg (by intro e; rw [e] at this; simp at this)]
theorem lon_pref (l : List UInt8) (h : lon l signs ≠ []) : (lon l signs).length ≤ l.length := by
  rw [lon_signs] at h ⊢
  cases hf : signs.find? fun g => Lib.hasPrefix l g with
  | none => rw [hf] at h; exact absurd rfl h
  | some g => exact hp_len (List.find?_some hf)
theorem lon_le (l : List UInt8) : ∀ gs : List (List UInt8), (∀ g ∈ gs, g.length ≤ 2) → (lon l gs).length ≤ 2 := by
  have go : ∀ (gs : List (List UInt8)) (acc : List UInt8), acc.length ≤ 2 → (∀ g ∈ gs, g.length ≤ 2) → (gs.foldl (lstep l) acc).length ≤ 2 := by
    intro gs
    induction gs with
    | nil => intro acc h _; exact h
    | cons g r ih =>
      intro acc h hg
      rw [List.foldl_cons]
      refine ih _ ?_ fun x hx => hg x (by simp [hx])
      unfold lstep
      split
      · exact hg g (by simp)
      · exact h
  intro gs h
  exact go gs [] (by simp) h
def signsA : List ByteArray := signs.map fun g => ⟨g.toArray⟩
theorem signsA_at (j : Nat) (h : j < 18) : ∃ g, signs[j]? = some g ∧ signsA[j]? = some ⟨g.toArray⟩ ∧ g.length ≤ 2 := by
  have h2 : j < signs.length := h
  refine ⟨signs[j], List.getElem?_eq_getElem h2, ?_, (signs_len _ (List.getElem_mem h2)).2⟩
  unfold signsA
  rw [List.getElem?_map, List.getElem?_eq_getElem h2]
  rfl
theorem take_g {gs : List (List UInt8)} {k : Nat} {x : List UInt8} (h : gs[k]? = some x) : gs.take (k + 1) = gs.take k ++ [x] := by
  rw [List.take_add_one, h]; rfl
def lonT (l : List UInt8) (j : Nat) : ByteArray := ⟨(lon l (signs.take j)).toArray⟩
theorem lonT_size (l : List UInt8) (j : Nat) : (lonT l j).size ≤ 2 := by
  unfold lonT
  rw [ba_len]
  exact lon_le l (signs.take j) fun g hg => (signs_len g (List.mem_of_mem_take hg)).2
theorem lonT_yes {l g : List UInt8} {j : Nat} (hg : signs[j]? = some g) (h1 : (lonT l j).size < (ByteArray.mk g.toArray).size) (h2 : Lib.hasPrefix l g = true) : lonT l (j + 1) = ⟨g.toArray⟩ := by
  unfold lonT at h1 ⊢
  rw [ba_len, ba_len] at h1
  rw [take_g hg, lon_snoc, lstep, decide_eq_true h1, h2]; rfl
theorem lonT_no1 {l g : List UInt8} {j : Nat} (hg : signs[j]? = some g) (h1 : ¬ (lonT l j).size < (ByteArray.mk g.toArray).size) : lonT l (j + 1) = lonT l j := by
  unfold lonT at h1 ⊢
  rw [ba_len, ba_len] at h1
  rw [take_g hg, lon_snoc, lstep, decide_eq_false h1]; rfl
theorem lonT_no2 {l g : List UInt8} {j : Nat} (hg : signs[j]? = some g) (h2 : Lib.hasPrefix l g = false) : lonT l (j + 1) = lonT l j := by
  unfold lonT
  rw [take_g hg, lon_snoc, lstep, h2, Bool.and_false]; rfl
theorem lonT_18 (l : List UInt8) : lonT l 18 = ⟨(lon l signs).toArray⟩ := rfl
theorem sign_none {l : List UInt8} (h : (lonT l 18).size = 0) : signL l = bad 5 := by
  rw [lonT_18, ba_len] at h
  rw [signL_eq, if_pos (List.eq_nil_of_length_eq_zero h)]
theorem sign_some {l : List UInt8} (h : (lonT l 18).size ≠ 0) : signL l = ⟨5, (lonT l 18).data.toList, 0, (lonT l 18).size, 0⟩ ∧ (lonT l 18).size ≤ l.length := by
  have hp := lon_pref l
  rw [lonT_18] at h
  rw [lonT_18, signL_eq]
  generalize lon l signs = q at *
  rw [ba_len] at h ⊢
  have hq : q ≠ [] := fun e => h (by rw [e]; rfl)
  rw [if_neg hq]
  exact ⟨rfl, hp hq⟩
set_option maxHeartbeats 2000000 in
theorem sign_tok (p c k : Nat) (s : ByteArray) (a : Option Addr) (w : World) (h : ScAt w p c s k) (hs : s.size ≤ maxLen) (hS : IsStrs w a 18 18 signsA) :
    Calls Tryz.prog 79 #[.pointer (some ⟨p, 0, none⟩), .slice a 18 18] w (TokPost c s k (signL (s.data.toList.drop k)) w) := by
  have h0 := h.c0
  have hcl := h.cur.lt
  have hpl := h.lt
  have H := Lib.hid h
  have HS := Lib.hid hS
  clear h hS
  generalize hl : s.data.toList.drop k = l
  have HL := Lib.hid hl
  clear hl
  generalize hf : signL l = f
  have HF := Lib.hid hf
  clear hf
  go_enter Tryz.func79, Tryz.ntmps79
  go_wp2_with fail
  have Z := Lib.hid (TokZ.new w)
  have B := Lib.hid (show Below w.heap.size w (w.alloc (.cells #[.int .i64 0, .string ⟨#[]⟩, .int .i64 0, .bool false, .int .i64 0, .int .i64 0, .int .i64 0] 50)) from (Below.refl _ _).alloc (Nat.le_refl _) _)
  have H0 := Lib.hid (H.out.alloc (.cells #[.int .i64 0, .string ⟨#[]⟩, .int .i64 0, .bool false, .int .i64 0, .int .i64 0, .int .i64 0] 50))
  have S0 := Lib.hid (HS.out.below B.out)
  generalize w.alloc (.cells #[.int .i64 0, .string ⟨#[]⟩, .int .i64 0, .bool false, .int .i64 0, .int .i64 0, .int .i64 0] 50) = w0 at Z B H0 S0
  clear h0 H HS
  go_loopw [6, 11] (fun lg i wr => ∃ j : Nat, j ≤ 18 ∧ i = .int .i64 j ∧ lg = .string (lonT l j) ∧ Below w0.heap.size w0 wr) (fun _ i _ => 18 - (intOf i).toNat)
  case atStart => exact ⟨0, by omega, rfl, rfl, Below.refl _ _⟩
  case round =>
    obtain ⟨j, hj, rfl, rfl, hb⟩ := hrel
    have BR := Lib.hid hb
    clear hb
    have hsz := lonT_size l j
    by_cases hlt : j < 18
    · obtain ⟨g, hg, hgA, hg2⟩ := signsA_at j hlt
      obtain ⟨b, o, x, rfl, hx, hxs, hcell⟩ := (S0.out.below BR.out).at hlt
      obtain rfl : x = ⟨g.toArray⟩ := Option.some.inj (hx.symm.trans hgA)
      have HG := Lib.hid hg
      have H1 := Lib.hid (H0.out.below BR.out)
      clear hg hgA hx
      have BG := fun w1 hw => begins2 p c k s ⟨g.toArray⟩ w1 hw
      rw [HL.out] at BG
      generalize hT : lonT l j = T at hsz
      have HT := Lib.hid hT
      clear hT
      by_cases h1 : T.size < (ByteArray.mk g.toArray).size
      · have d1 : decide (T.size < (ByteArray.mk g.toArray).size) = true := by simpa using h1
        have d1' : decide ((T.size : Int) < ((ByteArray.mk g.toArray).size : Int)) = true := by simp; omega
        cases h2 : Lib.hasPrefix l g with
        | true =>
          have E := Lib.hid (lonT_yes HG.out (by rw [HT.out]; exact h1) h2)
          rw [show Lib.hasPrefix l (ByteArray.mk g.toArray).data.toList = true from h2] at BG
          have HB := Lib.hid BG
          clear BG h2
          generalize (ByteArray.mk g.toArray) = G at *
          go_wp2_with fail
          refine (HB.out _ H1.out).mono ?_
          rintro e w2 ⟨rfl, b2⟩
          have B2 := Lib.hid (BR.out.trans (b2.mono BR.out.size))
          clear b2
          go_wp2_with fail
          go_roundw
          case rel => exact ⟨j + 1, by omega, by go_num, by rw [E.out], B2.out⟩
          case measure => simp [intOf]; omega
        | false =>
          have E := Lib.hid ((lonT_no2 HG.out h2).trans HT.out)
          rw [show Lib.hasPrefix l (ByteArray.mk g.toArray).data.toList = false from h2] at BG
          have HB := Lib.hid BG
          clear BG h2
          generalize (ByteArray.mk g.toArray) = G at *
          go_wp2_with fail
          refine (HB.out _ H1.out).mono ?_
          rintro e w2 ⟨rfl, b2⟩
          have B2 := Lib.hid (BR.out.trans (b2.mono BR.out.size))
          clear b2
          go_wp2_with fail
          go_roundw
          case rel => exact ⟨j + 1, by omega, by go_num, by rw [E.out], B2.out⟩
          case measure => simp [intOf]; omega
      · have d1 : decide (T.size < (ByteArray.mk g.toArray).size) = false := by simpa using h1
        have d1' : decide ((T.size : Int) < ((ByteArray.mk g.toArray).size : Int)) = false := by simp; omega
        have E := Lib.hid ((lonT_no1 HG.out (by rw [HT.out]; exact h1)).trans HT.out)
        clear BG
        generalize (ByteArray.mk g.toArray) = G at *
        go_wp2_with fail
        go_roundw
        case rel => exact ⟨j + 1, by omega, by go_num, by rw [E.out], BR.out⟩
        case measure => simp [intOf]; omega
    · obtain rfl : j = 18 := by omega
      have H1 := Lib.hid (H0.out.below BR.out)
      have h01 := H1.out.c0
      have Z1 := Lib.hid (Z.out.below BR.out)
      have BB := Lib.hid (B.out.trans (BR.out.mono B.out.size))
      by_cases h1 : (lonT l 18).size = 0
      · obtain rfl : f = bad 5 := by rw [← HF.out]; exact sign_none h1
        have ht : lonT l 18 = ⟨#[]⟩ := ba_empty _ h1
        rw [ht]
        obtain ⟨g0, g1, g2, g3, g4, g5, g6, gf⟩ := Z1.out.facts
        clear h1 ht
        go_wp2_with fail
        exact bodyPost_ret (v := .tuple #[tokV (bad 5), .int .i64 5]) (by simp [results, Tryz.results79, go_sem, tokV, bad, g0, g1, g2, g3, g4, g5, g6]) rfl (post7 (f := bad 5) (Nat.le_refl _) (by omega) (Only.ofBelow BB.out (Nat.le_refl _)) (fun h => by cases h) _ _ _ _ _ _ _)
      · obtain ⟨e1, e2⟩ := sign_some h1
        rw [HF.out] at e1
        have hd : s.size - k = l.length := by have := congrArg List.length HL.out; rw [List.length_drop, len_size] at this; exact this
        have hne := toList_ne (lonT l 18) (by omega)
        generalize lonT l 18 = T at *
        have n1 : (T.toList == []) = false := by simpa using hne
        have n2 : T.toList.isEmpty = false := by simpa using hne
        have EF := Lib.hid e1
        clear e1 hne
        have hk1 : k ≤ s.size := H1.out.cur.le
        have hsk : skipN (T.size : Int) k s = T.size := by unfold skipN; omega
        have HK := Lib.hid hsk
        clear hsk
        go_wp2_with fail
        refine (skip_any c k (T.size : Int) s _ H1.out.cur hs).mono ?_
        rw [HK.out]
        rintro e w4 ⟨rfl, c4, o4⟩
        have C4 := Lib.hid c4
        have O4 := Lib.hid ((Only.ofBelow BB.out (Nat.le_refl _)).trans o4)
        have Z4 := Lib.hid (Z1.out.only o4 (by omega))
        obtain ⟨g0, g1, g2, g3, g4, g5, g6, gf⟩ := Z4.out.facts
        clear c4 o4 h01
        go_wp2_with fail
        have et : tokV f = .agg #[.int .i64 5, .string T, .int .i64 0, .bool false, .int .i64 0, .int .i64 0, .int .i64 0] := by rw [EF.out]; rfl
        refine bodyPost_ret (v := .tuple #[tokV f, .int .i64 0]) (by rw [et]; simp [results, Tryz.results79, go_sem, g0, g1, g2, g3, g4, g5, g6]) rfl ?_
        have hp := post7 (c := c) (k := k) (s := s) (f := f) (w := w) (w1 := w4) (b := w.heap.size) (Nat.le_refl _) (by omega) O4.out (fun _ => by rw [EF.out]; exact C4.out) (.int .i64 5) (.string T) (.int .i64 0) (.bool false) (.int .i64 0) (.int .i64 0) (.int .i64 0)
        rw [show f.err = 0 by rw [EF.out]] at hp
        exact hp
end Go.Proofs.YtpcldpnaljheoaaGreatDoor.X.P
end
section
namespace Go.Proofs.YtpcldpnaljheoaaGreatDoor.X
open Go.RowKit

theorem ret_bool {a b : Bool} (h : a = b) : Ending.returned (.bool a) = .returned (.bool b) := by rw [h]
theorem brackets_0 (w : World) :
    Calls Tryz.prog 152 #[.int .i64 0] w fun e w' => e = .returned (.tuple #[.agg #[.string (opA 0), .string (clA 0)], .bool true]) ∧ Below w.heap.size w w' := by
  rw [opA_0, clA_0]
  go_enter Tryz.func152, Tryz.ntmps152
  go_wp2
  exact bodyPost_ret (v := .tuple #[.agg #[.string ⟨#[123]⟩, .string ⟨#[125]⟩], .bool true]) (by simp [results, Tryz.results152, go_sem]) rfl ⟨rfl, (Below.refl _ _).alloc (Nat.le_refl _) _⟩
theorem brackets_1 (w : World) :
    Calls Tryz.prog 152 #[.int .i64 1] w fun e w' => e = .returned (.tuple #[.agg #[.string (opA 1), .string (clA 1)], .bool true]) ∧ Below w.heap.size w w' := by
  rw [opA_1, clA_1]
  go_enter Tryz.func152, Tryz.ntmps152
  go_wp2
  exact bodyPost_ret (v := .tuple #[.agg #[.string ⟨#[47, 42]⟩, .string ⟨#[42, 47]⟩], .bool true]) (by simp [results, Tryz.results152, go_sem]) rfl ⟨rfl, (Below.refl _ _).alloc (Nat.le_refl _) _⟩
theorem brackets_yes (d : Int) (hd : Dia d) (w : World) :
    Calls Tryz.prog 152 #[.int .i64 d] w fun e w' => e = .returned (.tuple #[.agg #[.string (opA d), .string (clA d)], .bool true]) ∧ Below w.heap.size w w' := by
  rcases hd with rfl | rfl
  · exact brackets_0 w
  · exact brackets_1 w
theorem brackets_no (d : Int) (hd : ¬ Dia d) (w : World) :
    Calls Tryz.prog 152 #[.int .i64 d] w fun e w' => e = .returned (.tuple #[.agg #[.string ⟨#[]⟩, .string ⟨#[]⟩], .bool false]) ∧ Below w.heap.size w w' := by
  have h0 : (d == 0) = false := by unfold Dia at hd; simp; omega
  have h1 : (d == 1) = false := by unfold Dia at hd; simp; omega
  clear hd
  go_enter Tryz.func152, Tryz.ntmps152
  go_wp2
  exact bodyPost_ret (v := .tuple #[.agg #[.string ⟨#[]⟩, .string ⟨#[]⟩], .bool false]) (by simp [results, Tryz.results152, go_sem]) rfl ⟨rfl, (Below.refl _ _).alloc (Nat.le_refl _) _⟩

theorem may_any (r : Int) (w : World) :
    Calls Tryz.prog 183 #[.int .i32 r] w fun e w' => e = .returned (.bool (okZ r)) ∧ w = w' := by
  go_enter Tryz.func183, Tryz.ntmps183
  go_wp2
  all_goals go_ret
  all_goals refine ⟨ret_bool ?_, rfl⟩
  all_goals unfold okZ
  all_goals simp_all
  omega
theorem right_any (c : Int) (w : World) :
    Calls Tryz.prog 101 #[.int .u8 c] w fun e w' => e = .returned (.bool (okZ c)) ∧ w = w' := by
  go_enter Tryz.func101, Tryz.ntmps101
  go_wp2
  all_goals go_ret
  all_goals refine ⟨ret_bool ?_, rfl⟩
  all_goals unfold okZ
  all_goals simp_all
  omega

theorem high_bad (n : Nat) (h : 128 ≤ n) : okZ n = false := by
  unfold okZ; simp; omega
end Go.Proofs.YtpcldpnaljheoaaGreatDoor.X
end
section
namespace Go.Proofs.YtpcldpnaljheoaaGreatDoor.X
open Go.RowKit

set_option maxHeartbeats 400000 in
theorem begins_any (d : Int) (s : ByteArray) (w : World) :
    Calls Tryz.prog 109 #[.int .i64 d, .string s] w fun e w' => e = .returned (.bool (begL d s.data.toList)) ∧ Below w.heap.size w w' := by
  by_cases hd : Dia d
  · have D := Lib.hid hd.b
    go_enter Tryz.func109, Tryz.ntmps109
    go_wp2_with fail
    refine (brackets_yes d hd _).mono ?_
    rintro e w1 ⟨rfl, b1⟩
    have B1 := Lib.hid b1
    clear b1
    go_wp2_with fail
    refine (Tryz.strings_HasPrefix s (opA d) _).mono ?_
    rintro e w2 ⟨rfl, rfl⟩
    go_wp2_with fail
    go_ret
    refine ⟨ret_bool ?_, B1.out.alloc B1.out.size _⟩
    unfold begL
    rw [D.out]
    rfl
  · have D := Lib.hid (not_dia hd)
    go_enter Tryz.func109, Tryz.ntmps109
    go_wp2_with fail
    refine (brackets_no d hd _).mono ?_
    rintro e w1 ⟨rfl, b1⟩
    have B1 := Lib.hid b1
    clear b1
    go_wp2_with fail
    go_ret
    refine ⟨ret_bool ?_, B1.out.alloc B1.out.size _⟩
    unfold begL
    rw [D.out]
    rfl
end Go.Proofs.YtpcldpnaljheoaaGreatDoor.X
end
section
namespace Go.Proofs.YtpcldpnaljheoaaGreatDoor.X
open Go.RowKit

theorem cell_new (w : World) (c : Array Value) (t : TypeId) (o : Nat) : (w.alloc (.cells c t)).cell? ⟨w.heap.size, o, none⟩ = c[o]? := by
  unfold World.cell?
  rw [heap_new]
  rfl
theorem ext_drop (s : ByteArray) (k : Nat) : (s.extract k s.size).data.toList = s.data.toList.drop k := by
  simp only [ByteArray.data_extract, Array.toList_extract, List.extract_eq_take_drop]
  rw [List.take_of_length_le (by simp)]
theorem has_yes (s : ByteArray) (k : Nat) (d : Int) (w : World) (h : clos d (s.data.toList.drop k) = true) :
    Calls Tryz.prog 153 #[.string (s.extract k s.size), .string (clA d)] w fun e w' => e = .returned (.bool true) ∧ w' = w := by
  have := Tryz.strings_HasPrefix (s.extract k s.size) (clA d) w
  rw [ext_drop, clA_l, show Lib.hasPrefix (s.data.toList.drop k) (clL d) = true from h] at this
  exact this
theorem has_no (s : ByteArray) (k : Nat) (d : Int) (w : World) (h : clos d (s.data.toList.drop k) = false) :
    Calls Tryz.prog 153 #[.string (s.extract k s.size), .string (clA d)] w fun e w' => e = .returned (.bool false) ∧ w' = w := by
  have := Tryz.strings_HasPrefix (s.extract k s.size) (clA d) w
  rw [ext_drop, clA_l, show Lib.hasPrefix (s.data.toList.drop k) (clL d) = false from h] at this
  exact this

/-- In wr the block B is a builder that holds acc, the block k goes through s and stands at pos; below B all is as in w0. -/
structure Bld (w0 : World) (B k : Nat) (s : ByteArray) (pos : Nat) (acc : List UInt8) (wr : World) : Prop where
  bld : Lib.IsBuilderF 169 5 B B (Lib.byteCells acc) wr
  it : wr.heap[k]? = some (.stringIter s pos)
  bel : Below B w0 wr
  lt : B < k
theorem Bld.size {w0 wr : World} {B k pos : Nat} {s : ByteArray} {acc : List UInt8} (h : Bld w0 B k s pos acc wr) : B ≤ wr.heap.size := by
  have := (Array.getElem?_eq_some_iff.1 h.it).1
  have := h.lt
  omega
theorem Bld.next {w0 wr : World} {B k pos : Nat} {s : ByteArray} {acc : List UInt8} (h : Bld w0 B k s pos acc wr) (p : Nat) : Bld w0 B k s p acc (wr.iterAt k s p) :=
  ⟨h.bld.iterAt h.it p, Lib.iterAt_heap wr k s pos p h.it, Lib.below_iterAt h.bel (Nat.le_of_lt h.lt) s p, h.lt⟩
theorem Bld.drewN {w0 wr : World} {B k pos : Nat} {s : ByteArray} {acc : List UInt8} (h : Bld w0 B k s pos acc wr) (n : Nat) : Bld w0 B k s pos acc (wr.drewN n) :=
  ⟨h.bld, h.it, ⟨h.bel.os, h.bel.tape, h.bel.output, h.bel.size, h.bel.block⟩, h.lt⟩
theorem Bld.cell {w0 wr : World} {B k pos : Nat} {s : ByteArray} {acc : List UInt8} (h : Bld w0 B k s pos acc wr) (b o : Nat) (hb : b < B) : wr.cell? ⟨b, o, none⟩ = w0.cell? ⟨b, o, none⟩ :=
  h.bel.cell (p := ⟨b, o, none⟩) hb
theorem Bld.pos {w0 wr : World} {B k pos : Nat} {s : ByteArray} {acc : List UInt8} (h : Bld w0 B k s pos acc wr) : wr.iterPos k = pos := by
  simp only [World.iterPos, h.it]
theorem Bld.nextLow {w0 wr : World} {B k pos : Nat} {s : ByteArray} {acc : List UInt8} (h : Bld w0 B k s pos acc wr) (hp : pos < s.size) (hi : (bt s pos).toNat < 128) (ty : TypeId) :
    (Instr.next (.pointer (some ⟨k, 0, none⟩)) true ty).run Tryz.prog wr = .ok (.tuple #[.bool true, .int .i64 pos, .int .i32 (bt s pos).toNat]) (wr.iterAt k s (pos + 1)) := by
  have := Lib.run_next_ascii_at (P := Tryz.prog) wr k s pos ty h.it hp (by rw [bt_eq s pos hp]; exact hi)
  rw [bt_eq s pos hp] at this
  exact this
theorem rune_low (c : UInt8) (hc : c.toNat < 128) : Lib.runeCells (c.toNat : Int) = Lib.byteCells [c] := by
  unfold Lib.runeCells Lib.byteCells
  rw [Lib.encodeRuneZ_one (by omega) (by omega)]
  rfl
theorem Bld.writeRune {w0 wr : World} {B k pos : Nat} {s : ByteArray} {acc : List UInt8} (h : Bld w0 B k s pos acc wr) (c : UInt8) (hc : c.toNat < 128) (hl : acc.length ≤ 1000000) :
    Calls Tryz.prog 162 #[.pointer (some ⟨B, 0, none⟩), .int .i32 (c.toNat : Int)] wr fun e w' => e = .returned (.tuple #[.int .i64 1, .nilIface]) ∧ Bld w0 B k s pos (acc ++ [c]) w' := by
  refine (Tryz.Builder_WriteRune_k B B _ c.toNat (by omega) (by omega) wr h.bld (by rw [Lib.byteCells_length]; omega) h.size).mono ?_
  rw [rune_low c hc]
  rintro e w' ⟨rfl, h1, b1, k1⟩
  refine ⟨rfl, ?_, k1.iter h.it (Nat.ne_of_gt h.lt), h.bel.trans b1, h.lt⟩
  rw [Lib.byteCells_append]
  exact Or.inr h1
theorem Bld.string {w0 wr : World} {B k pos : Nat} {s : ByteArray} {acc : List UInt8} (h : Bld w0 B k s pos acc wr) :
    Calls Tryz.prog 119 #[.pointer (some ⟨B, 0, none⟩)] wr fun e w' => e = .returned (.string ⟨acc.toArray⟩) ∧ Bld w0 B k s pos acc w' := by
  refine (Tryz.Builder_String_any_k B B acc wr h.bld h.size).mono ?_
  rintro e w' ⟨rfl, h1, b1, k1⟩
  exact ⟨rfl, h1, k1.iter h.it (Nat.ne_of_gt h.lt), h.bel.trans b1, h.lt⟩
theorem Bld.len {w0 wr : World} {B k pos : Nat} {s : ByteArray} {acc : List UInt8} (h : Bld w0 B k s pos acc wr) :
    Calls Tryz.prog 184 #[.pointer (some ⟨B, 0, none⟩)] wr fun e w' => e = .returned (.int .i64 (acc.length : Nat)) ∧ wr = w' := by
  refine (Tryz.Builder_Len_f B B _ wr h.bld).mono ?_
  rw [Lib.byteCells_length]
  rintro e w' ⟨rfl, rfl⟩
  exact ⟨rfl, rfl⟩
/-- A new builder, written once, and then an iterator. -/
theorem Bld.begin {w0 w1 : World} {s : ByteArray} {acc : List UInt8} (h : Lib.IsBuilderF 169 5 w0.heap.size w0.heap.size (Lib.byteCells acc) w1) (hb : Below w0.heap.size w0 w1) (hz : w0.heap.size < w1.heap.size) :
    Bld w0 w0.heap.size w1.heap.size s 0 acc (w1.iter s 0) :=
  ⟨h.alloc _, World.iter_heap w1 s 0, hb.alloc (Nat.le_of_lt hz) _, hz⟩
end Go.Proofs.YtpcldpnaljheoaaGreatDoor.X
end
section
namespace Go.Proofs.YtpcldpnaljheoaaGreatDoor.X
open Go.RowKit

theorem info5 : (Tryz.prog.info? 5).map (fun i => (i.zero, i.size, i.bytes)) = some (some (.int .u8 0), 1, 1) := by kernel_rfl
/-- v is a list of the call's own that holds acc; below w0's end all is as in w0. -/
structure Own (w0 : World) (v : Value) (acc : List UInt8) (wr : World) : Prop where
  own : wr.ownsRow w0.heap.size 5 1 v acc.length (Lib.byteCells acc)
  bel : Below w0.heap.size w0 wr
theorem Own.nil (w0 : World) : Own w0 (.slice none 0 0) [] w0 := ⟨World.ownsRow_nil _ _ _ _, Below.refl _ _⟩
theorem Own.val {w0 wr : World} {v : Value} {acc : List UInt8} (h : Own w0 v acc wr) : (v = .slice none 0 0 ∧ acc = []) ∨ ∃ g cap, v = .slice (some ⟨g, 0, none⟩) acc.length cap := by
  rcases h.own.2 with ⟨h1, h2⟩ | ⟨g, cap, _, h1, _⟩
  · exact .inl ⟨h1, List.eq_nil_of_length_eq_zero h2⟩
  · exact .inr ⟨g, cap, h1⟩
theorem below_grown {w0 w w' : World} {row : Option Nat} (h : Below w0.heap.size w0 w) (hg : w.grownBy w' row) (hrow : ∀ k, row = some k → w0.heap.size ≤ k) : Below w0.heap.size w0 w' :=
  ⟨hg.os.trans h.os, hg.tape.trans h.tape, hg.output.trans h.output, Nat.le_trans h.size hg.size, fun i hi => (hg.block i (Nat.lt_of_lt_of_le hi h.size) (fun e => by have := hrow i e.symm; omega)).trans (h.block i hi)⟩
theorem wp_app {ops : Array Oper} {rest : List Oper} {o : Oper} {a : Act} {Q : Exit → Act → World → Prop} (hgd : o.guard = none) (s x : Operand)
    (ho : o.op = .call { callee := .builtin .append, args := #[s, x], argTypes := #[142, 142] })
    {w0 wr : World} {v : Value} {acc : List UInt8} (cs : Array Value) (news : List UInt8) (m : Nat) (hcs : cs.toList = Lib.byteCells news) (hm : news.length = m)
    (h : Own w0 v acc wr) (hs : a.eval s = v) (hx : a.eval x = .slice (some ⟨wr.heap.size, 0, none⟩) m m) (hl : acc.length ≤ 1000000) (hm2 : m ≤ 10)
    (hk : ∀ v' w', Own w0 v' (acc ++ news) w' → wpList Tryz.prog ops Q rest (a.put o.dst v') w') : wpList Tryz.prog ops Q (o :: rest) a (wr.alloc (.cells cs 5)) := by
  obtain ⟨i, hi, hz0, hz1, hz2⟩ := info_parts info5
  refine wpList_append_own _ hgd s x 142 ho w0.heap.size 5 i (.int .u8 0) 1 1 Tryz.underlying142 hi hz0 hz1 hz2 rfl (by decide) v acc.length (Lib.byteCells acc) hs (h.own.alloc _) ⟨wr.heap.size, 0, none⟩ m m (Lib.byteCells news) hx (by rw [Lib.byteCells_length]; omega) ?_ ?_ (by unfold maxLen; omega) (by omega) (by have := h.bel.size; simp; omega) ?_
  · intro j u hu
    have e : (⟨wr.heap.size, 0, none⟩ : Addr).add j = ⟨wr.heap.size, j, none⟩ := by unfold Addr.add; split <;> simp_all
    rw [e, cell_new, ← hu, ← hcs]
    simp
  · intro u hu
    simp only [Lib.byteCells, List.mem_map] at hu
    obtain ⟨b, _, rfl⟩ := hu
    rfl
  · intro v' w' h2 h3 _
    refine hk v' w' ⟨?_, below_grown (h.bel.alloc h.bel.size _) h3 (fun k hk2 => ((h.own.lt k hk2).1))⟩
    rw [Lib.byteCells_append, List.length_append, hm]
    exact h2
theorem Own.conv {w0 wr : World} {v : Value} {acc : List UInt8} (h : Own w0 v acc wr) : (convert 142 9 v).run Tryz.prog wr = .ok (.string ⟨acc.toArray⟩) wr := by
  rcases h.own.2 with ⟨rfl, h2⟩ | ⟨g, cap, cur, rfl, _, hg, _, _, _, hcur⟩
  · have : acc = [] := List.eq_nil_of_length_eq_zero h2
    subst this
    exact run_convert_bytes_nil wr 142 5 Tryz.underlying142 Tryz.underlying5 0 0 9 Tryz.underlying9
  · have e : strOfNums (acc.map fun b => (b.toNat : Int)) = ⟨acc.toArray⟩ := by
      unfold strOfNums
      rw [List.map_map]
      congr 2
      simp [Function.comp_def]
    rw [← e]
    refine run_convert_bytes_arg wr 142 5 Tryz.underlying142 Tryz.underlying5 g 0 acc.length cap (acc.map fun b => (b.toNat : Int)) (by simp) ?_ 9 Tryz.underlying9
    intro i hi
    have h3 : cur.toList[i]? = (Lib.byteCells acc)[i]? := by rw [← hcur, List.getElem?_take]; simp [hi]
    unfold World.cell?
    simp only [hg, Nat.zero_add]
    have h4 : cur[i]? = (Lib.byteCells acc)[i]? := by rw [← h3]; simp
    simp [h4, Lib.byteCells, List.getElem?_eq_getElem hi, List.getD]
end Go.Proofs.YtpcldpnaljheoaaGreatDoor.X
end
section
namespace Go.Proofs.YtpcldpnaljheoaaGreatDoor.X
open Go.RowKit

theorem eqb (c : UInt8) (n : Nat) (hn : n < 256) : ((c.toNat : Int) == (n : Int)) = (c == n.toUInt8) := by
  rw [Bool.eq_iff_iff]
  simp only [beq_iff_eq]
  constructor
  · intro h
    apply UInt8.toNat_inj.1
    have : n.toUInt8.toNat = n := by simp; omega
    omega
  · intro h
    rw [h]
    have : n.toUInt8.toNat = n := by simp; omega
    omega
end Go.Proofs.YtpcldpnaljheoaaGreatDoor.X
end
section
namespace Go.Proofs.YtpcldpnaljheoaaGreatDoor.X
open Go.RowKit

/-- What is told of what was read. -/
def ans (r : List UInt8 × Nat × Nat) : Value := .tuple #[.string ⟨r.1.toArray⟩, .int .i64 (r.2.1 : Nat), .int .i64 (r.2.2 : Nat)]
/-- What stands behind the opening. -/
def restA (d : Int) (s : ByteArray) : ByteArray := ⟨(s.data.toList.drop (opL d).length).toArray⟩
theorem restA_l (d : Int) (s : ByteArray) : (restA d s).data.toList = s.data.toList.drop (opL d).length := rfl
theorem cut_yes (d : Int) (s : ByteArray) (w : World) (h : begs d s.data.toList = true) :
    Calls Tryz.prog 182 #[.string s, .string (opA d)] w fun e w' => e = .returned (.tuple #[.string (restA d s), .bool true]) ∧ w' = w := by
  have := Tryz.strings_CutPrefix s (opA d) w
  unfold begs at h
  unfold Lib.trimPrefix at this
  rw [opA_l, h, if_pos rfl] at this
  exact this
theorem cut_no (d : Int) (s : ByteArray) (w : World) (h : begs d s.data.toList = false) :
    Calls Tryz.prog 182 #[.string s, .string (opA d)] w fun e w' => (∃ t, e = .returned (.tuple #[.string t, .bool false])) ∧ w' = w := by
  have := Tryz.strings_CutPrefix s (opA d) w
  unfold begs at h
  rw [opA_l, h] at this
  exact this.mono fun _ _ ⟨h1, h2⟩ => ⟨⟨_, h1⟩, h2⟩
theorem ans_ok (acc : List UInt8) (x : Int) (m : Nat) (h : x = m) : Ending.returned (.tuple #[.string ⟨acc.toArray⟩, .int .i64 x, .int .i64 0]) = .returned (ans (acc, m, 0)) := by
  subst h; rfl
theorem rd_nil (d : Int) (sh : Bool) (acc : List UInt8) (u : Nat) : rd d [] sh acc u = ([], 0, 8) := by cases sh <;> rfl
theorem rd_t (d : Int) (c : UInt8) (r acc : List UInt8) (u : Nat) : rd d (c :: r) true acc u = if (c == 92 || c == cl0 d) = true then (if acc.length = 1024 then ([], 0, 3) else rd d r false (acc ++ [c]) (u + 1)) else ([], 0, 8) := rfl
theorem rd_f (d : Int) (c : UInt8) (r acc : List UInt8) (u : Nat) : rd d (c :: r) false acc u = if clos d (c :: r) = true then (acc, u + (clL d).length, 0)
    else if (c == 92) = true then rd d r true acc (u + 1)
    else if okB c = false then ([], 0, 8)
    else if acc.length = 1024 then ([], 0, 3)
    else rd d r false (acc ++ [c]) (u + 1) := rfl
theorem high_ne (c : UInt8) (n : UInt8) (h : ¬ c.toNat < 128) (hn : n.toNat < 128) : (c == n) = false := by
  simp; intro e; rw [e] at h; exact h hn
theorem high_clos (d : Int) (hd : Dia d) (c : UInt8) (r : List UInt8) (h : ¬ c.toNat < 128) : clos d (c :: r) = false := by
  rcases hd with rfl | rfl
  · rw [clos0]; have := high_ne c 125 h (by decide); rw [show ((125 : UInt8) == c) = (c == 125) from Bool.beq_comm ..]; exact this
  · rw [clos1]; have := high_ne c 42 h (by decide); rw [show ((42 : UInt8) == c) = (c == 42) from Bool.beq_comm .., this]; rfl

theorem Bld.drew {w0 wr : World} {B k pos : Nat} {s : ByteArray} {acc : List UInt8} (h : Bld w0 B k s pos acc wr) : Bld w0 B k s pos acc wr.drew :=
  ⟨h.bld, h.it, ⟨h.bel.os, h.bel.tape, h.bel.output, h.bel.size, h.bel.block⟩, h.lt⟩
theorem Str.call {nb : Nat} {op cl : ByteArray} {w0 wr : World} {B k : Nat} {s : ByteArray} {pos : Nat} {acc : List UInt8} (hn : nb < B)
    (h : wr.cell? ⟨nb, 0, none⟩ = some (.string op) ∧ wr.cell? ⟨nb, 1, none⟩ = some (.string cl) ∧ Bld w0 B k s pos acc wr) :
    Calls Tryz.prog 119 #[.pointer (some ⟨B, 0, none⟩)] wr fun e w' => e = .returned (.string ⟨acc.toArray⟩) ∧ (w'.cell? ⟨nb, 0, none⟩ = some (.string op) ∧ w'.cell? ⟨nb, 1, none⟩ = some (.string cl) ∧ Bld w0 B k s pos acc w') := by
  refine h.2.2.string.mono ?_
  rintro e w' ⟨rfl, h2⟩
  refine ⟨rfl, ?_, ?_, h2⟩
  · rw [h2.cell _ _ hn, ← h.2.2.cell _ _ hn]; exact h.1
  · rw [h2.cell _ _ hn, ← h.2.2.cell _ _ hn]; exact h.2.1
theorem clos_size (d : Int) (R : ByteArray) (k : Nat) (h : clos d (R.data.toList.drop k) = true) : k + (clL d).length ≤ R.size := by
  have h1 := (List.isPrefixOf_iff_prefix.1 h).length_le
  rw [List.length_drop, len_size] at h1
  have h2 : 0 < (clL d).length := by unfold clL; split <;> simp
  omega
set_option maxHeartbeats 400000 in
theorem read_no (d : Int) (s : ByteArray) (w : World) (hd : ¬ Dia d) :
    Calls Tryz.prog 154 #[.int .i64 d, .string s] w fun e w' => e = .returned (ans ([], 0, 1)) ∧ Below w.heap.size w w' := by
  go_enter Tryz.func154, Tryz.ntmps154
  go_wp2_with fail
  refine (brackets_no d hd _).mono ?_
  rintro e w1 ⟨rfl, b1⟩
  have B1 := Lib.hid b1
  clear b1
  go_wp2_with fail
  go_ret3
  exact ⟨rfl, B1.out.alloc B1.out.size _⟩
set_option maxHeartbeats 400000 in
theorem read_not (d : Int) (s : ByteArray) (w : World) (hd : Dia d) (hb : begs d s.data.toList = false) :
    Calls Tryz.prog 154 #[.int .i64 d, .string s] w fun e w' => e = .returned (ans ([], 0, 8)) ∧ Below w.heap.size w w' := by
  have HB := Lib.hid hb
  clear hb
  go_enter Tryz.func154, Tryz.ntmps154
  go_wp2_with fail
  refine (brackets_yes d hd _).mono ?_
  rintro e w1 ⟨rfl, b1⟩
  have B1 := Lib.hid b1
  clear b1
  go_wp2_with fail
  refine (cut_no d s _ HB.out).mono ?_
  rintro e w2 ⟨⟨t, rfl⟩, rfl⟩
  go_wp2_with fail
  go_ret3
  exact ⟨rfl, B1.out.alloc B1.out.size _⟩
set_option maxHeartbeats 2000000 in
theorem read_yes0 (s R : ByteArray) (res : List UInt8 × Nat × Nat) (w : World) (hR : restA 0 s = R) (hres : rd 0 R.data.toList false [] 1 = res) (hs : R.size + 1 ≤ maxLen) (hb : begs 0 s.data.toList = true) :
    Calls Tryz.prog 154 #[.int .i64 0, .string s] w fun e w' => e = .returned (ans res) ∧ Below w.heap.size w w' := by
  unfold maxLen at hs
  have HB := Lib.hid hb
  have HR := Lib.hid hR
  have RS := Lib.hid hres
  clear hb hR hres
  go_enter Tryz.func154, Tryz.ntmps154
  go_wp2_with fail
  refine (brackets_0 _).mono ?_
  rintro e w1 ⟨rfl, b1⟩
  have B1 := Lib.hid b1
  clear b1
  rw [opA_0, clA_0]
  go_wp2_with fail
  refine (cut_yes 0 s _ HB.out).mono ?_
  rw [HR.out]
  rintro e w2 ⟨rfl, rfl⟩
  have c1 : (w1.alloc (.cells #[.string ⟨#[123]⟩, .string ⟨#[125]⟩] 198)).cell? ⟨w1.heap.size, 1, none⟩ = some (.string ⟨#[125]⟩) := by rw [cell_new]; rfl
  have c0 : (w1.alloc (.cells #[.string ⟨#[123]⟩, .string ⟨#[125]⟩] 198)).cell? ⟨w1.heap.size, 0, none⟩ = some (.string ⟨#[123]⟩) := by rw [cell_new]; rfl
  have hz : w1.heap.size < (w1.alloc (.cells #[.string ⟨#[123]⟩, .string ⟨#[125]⟩] 198)).heap.size := by simp
  have BB := Lib.hid (B1.out.alloc B1.out.size (.cells #[.string ⟨#[123]⟩, .string ⟨#[125]⟩] 198))
  generalize w1.alloc (.cells #[.string ⟨#[123]⟩, .string ⟨#[125]⟩] 198) = w2 at c1 c0 hz BB ⊢
  have ST := Lib.hid (show Bld w2 w2.heap.size (w2.heap.size + 1) R 0 [] ((w2.alloc (.cells #[.pointer none, .slice none 0 0] 169)).iter R 0) by
    have h := Bld.begin (w0 := w2) (w1 := w2.alloc (.cells #[.pointer none, .slice none 0 0] 169)) (s := R) (acc := []) (Lib.IsBuilderF.of (Lib.fresh_isBuilder 169 5 w2)) ((Below.refl _ _).alloc (Nat.le_refl _) _) (by simp)
    rw [show (w2.alloc (.cells #[.pointer none, .slice none 0 0] 169)).heap.size = w2.heap.size + 1 by simp] at h
    exact h)
  go_wp2_with fail
  go_loopw [11] (fun sh wr => ∃ (b : Bool) (pos : Nat) (acc : List UInt8), sh = .bool b ∧ Bld w2 w2.heap.size (w2.heap.size + 1) R pos acc wr ∧ rd 0 (R.data.toList.drop pos) b acc (1 + pos) = res ∧ acc.length ≤ 1024 ∧ pos ≤ R.size) (fun _ wr => R.size - wr.iterPos (w2.heap.size + 1))
  case atStart => exact ⟨false, 0, [], rfl, ST.out, RS.out, by decide, Nat.zero_le _⟩
  case round =>
    obtain ⟨b, pos, acc, rfl, hst, hrd, hal, hps⟩ := hrel
    have S := Lib.hid hst
    have RD := Lib.hid hrd
    clear hst hrd ST RS
    by_cases hp : pos < R.size
    · have DB := Lib.hid (drop_bt R pos hp)
      by_cases hlow : (bt R pos).toNat < 128
      · have hnx := S.out.nextLow hp hlow
        have s1 := S.out.next (pos + 1)
        have S1 := Lib.hid s1
        have hc1 : (wr.iterAt (w2.heap.size + 1) R (pos + 1)).cell? ⟨w1.heap.size, 1, none⟩ = some (.string ⟨#[125]⟩) := by rw [S1.out.cell _ _ hz]; exact c1
        have hc0 : (wr.iterAt (w2.heap.size + 1) R (pos + 1)).cell? ⟨w1.heap.size, 0, none⟩ = some (.string ⟨#[123]⟩) := by rw [S1.out.cell _ _ hz]; exact c0
        clear s1
        generalize wr.iterAt (w2.heap.size + 1) R (pos + 1) = wn at hnx S1 hc1 hc0
        have e92 : (((bt R pos).toNat : Int) == 92) = (bt R pos == 92) := eqb _ 92 (by decide)
        have n92 : (((bt R pos).toNat : Int) != 92) = !(bt R pos == 92) := by unfold bne; rw [e92]
        have nc0 : (((bt R pos).toNat : Int) != wrap32 (((ByteArray.mk #[125])[0]'(by decide)).toNat : Nat)) = !(bt R pos == 125) := by
          rw [show wrap32 (((ByteArray.mk #[125])[0]'(by decide)).toNat : Nat) = 125 from IntWalk.wrap32_in 125 (by omega)]
          unfold bne; rw [show (((bt R pos).toNat : Int) == 125) = (bt R pos == 125) from eqb _ 125 (by decide)]
        cases b with
        | true =>
          have X : Hid (res = if (bt R pos == 92 || bt R pos == 125) = true then (if acc.length = 1024 then ([], 0, 3) else rd 0 (R.data.toList.drop (pos + 1)) false (acc ++ [bt R pos]) (1 + (pos + 1))) else ([], 0, 8)) := Lib.hid (by
            rw [← RD.out, DB.out, rd_t]; rfl)
          cases h1 : (bt R pos == 92) with
          | true =>
            rw [h1] at e92 n92
            have H1 := Lib.hid h1
            clear h1 nc0
            by_cases hfull : acc.length = 1024
            · have F : Hid (res = ([], 0, 3)) := Lib.hid (by rw [X.out, H1.out, if_pos (by rfl), if_pos hfull])
              have hf : (((acc.length : Nat) : Int) == 1024) = true := by simp; omega
              clear hfull
              go_wp2_with fail
              refine (S1.out.len).mono ?_
              rintro e w5 ⟨rfl, rfl⟩
              go_wp2_with fail
              go_ret3
              refine ⟨?_, BB.out.trans (S1.out.bel.mono BB.out.size)⟩
              rw [F.out]
              rfl
            · have F : Hid (rd 0 (R.data.toList.drop (pos + 1)) false (acc ++ [bt R pos]) (1 + (pos + 1)) = res) := Lib.hid (by rw [X.out, H1.out, if_pos (by rfl), if_neg hfull])
              have hf : (((acc.length : Nat) : Int) == 1024) = false := by simp; omega
              have hal2 : acc.length + 1 ≤ 1024 := by omega
              clear hfull
              go_wp2_with fail
              refine (S1.out.len).mono ?_
              rintro e w5 ⟨rfl, rfl⟩
              go_wp2_with fail
              refine (S1.out.writeRune (bt R pos) hlow (by omega)).mono ?_
              rintro e w6 ⟨rfl, s6⟩
              have S6 := Lib.hid s6
              clear s6
              go_wp2_with fail
              go_roundw
              case rel => exact ⟨false, pos + 1, _, rfl, S6.out, F.out, by simp; omega, hp⟩
              case measure => rw [S6.out.pos, S.out.pos]; omega
          | false =>
            rw [h1] at e92 n92
            have H1 := Lib.hid h1
            clear h1
            cases h2 : (bt R pos == 125) with
            | true =>
              rw [h2] at nc0
              have H2 := Lib.hid h2
              clear h2
              by_cases hfull : acc.length = 1024
              · have F : Hid (res = ([], 0, 3)) := Lib.hid (by rw [X.out, H1.out, H2.out, if_pos (by rfl), if_pos hfull])
                have hf : (((acc.length : Nat) : Int) == 1024) = true := by simp; omega
                clear hfull
                go_wp2_with fail
                refine (S1.out.len).mono ?_
                rintro e w5 ⟨rfl, rfl⟩
                go_wp2_with fail
                go_ret3
                refine ⟨?_, BB.out.trans (S1.out.bel.mono BB.out.size)⟩
                rw [F.out]
                rfl
              · have F : Hid (rd 0 (R.data.toList.drop (pos + 1)) false (acc ++ [bt R pos]) (1 + (pos + 1)) = res) := Lib.hid (by rw [X.out, H1.out, H2.out, if_pos (by rfl), if_neg hfull])
                have hf : (((acc.length : Nat) : Int) == 1024) = false := by simp; omega
                have hal2 : acc.length + 1 ≤ 1024 := by omega
                clear hfull
                go_wp2_with fail
                refine (S1.out.len).mono ?_
                rintro e w5 ⟨rfl, rfl⟩
                go_wp2_with fail
                refine (S1.out.writeRune (bt R pos) hlow (by omega)).mono ?_
                rintro e w6 ⟨rfl, s6⟩
                have S6 := Lib.hid s6
                clear s6
                go_wp2_with fail
                go_roundw
                case rel => exact ⟨false, pos + 1, _, rfl, S6.out, F.out, by simp; omega, hp⟩
                case measure => rw [S6.out.pos, S.out.pos]; omega
            | false =>
              rw [h2] at nc0
              have H2 := Lib.hid h2
              clear h2
              have F : Hid (res = ([], 0, 8)) := Lib.hid (by rw [X.out, H1.out, H2.out, if_neg (by decide)])
              go_wp2_with fail
              go_ret3
              refine ⟨?_, BB.out.trans (S1.out.bel.mono BB.out.size)⟩
              rw [F.out]
              rfl
        | false =>
          have X : Hid (res = if clos 0 (R.data.toList.drop pos) = true then (acc, 1 + pos + 1, 0)
              else if (bt R pos == 92) = true then rd 0 (R.data.toList.drop (pos + 1)) true acc (1 + (pos + 1))
              else if okB (bt R pos) = false then ([], 0, 8)
              else if acc.length = 1024 then ([], 0, 3)
              else rd 0 (R.data.toList.drop (pos + 1)) false (acc ++ [bt R pos]) (1 + (pos + 1))) := Lib.hid (by
            rw [← RD.out, DB.out, rd_f]; rfl)
          clear nc0 n92
          cases hcl : clos 0 (R.data.toList.drop pos) with
          | true =>
            have CL := Lib.hid hcl
            clear hcl
            have F : Hid (res = (acc, 1 + pos + 1, 0)) := Lib.hid (by rw [X.out, CL.out, if_pos rfl])
            have hpe : pos + 1 ≤ R.size := clos_size 0 R pos CL.out
            have hq : ∀ w, Calls Tryz.prog 153 #[.string (R.extract pos R.size), .string ⟨#[125]⟩] w fun e w' => e = .returned (.bool true) ∧ w' = w := fun w => has_yes R pos 0 w CL.out
            have HQ := Lib.hid hq
            clear hq e92
            have hst := fun w1' => @Str.call w1.heap.size ⟨#[123]⟩ ⟨#[125]⟩ w2 w1' w2.heap.size (w2.heap.size + 1) R (pos + 1) acc hz
            have STR := Lib.hid hst
            clear hst
            have i1 : IntKind.i64.wrap (1 + (pos : Int)) = 1 + (pos : Int) := IntWalk.i64_in _ (by omega)
            have i2 : IntKind.i64.wrap (1 + (pos : Int) + 1) = 1 + (pos : Int) + 1 := IntWalk.i64_in _ (by omega)
            have I1 := Lib.hid i1
            have I2 := Lib.hid i2
            clear i1 i2
            go_wp2_with fail
            go_quiet ((go_at_call 153; exact Calls.quiet_of_same (HQ.out _)))
            go_wp2_with fail
            have i1 := I1.out
            have i2 := I2.out
            go_region_held3 (fun w' => w'.cell? ⟨w1.heap.size, 0, none⟩ = some (.string ⟨#[123]⟩) ∧ w'.cell? ⟨w1.heap.size, 1, none⟩ = some (.string ⟨#[125]⟩) ∧ Bld w2 w2.heap.size (w2.heap.size + 1) R (pos + 1) acc w')
              (first | assumption | exact ⟨hc0, hc1, (S1.out.drewN _).drew⟩)
              (first | (go_at_call 119; refine (STR.out _ ?_).mono ?_; assumption; rintro e w7 ⟨rfl, s7⟩))
            have S7 := Lib.hid s7.2.2
            clear s7 i1 i2
            go_wp2_with fail
            go_ret3
            refine ⟨Eq.trans (ans_ok acc _ (1 + pos + 1) (by omega)) (by rw [F.out]), BB.out.trans (S7.out.bel.mono BB.out.size)⟩
          | false =>
            have CL := Lib.hid hcl
            clear hcl
            have hq : ∀ w, Calls Tryz.prog 153 #[.string (R.extract pos R.size), .string ⟨#[125]⟩] w fun e w' => e = .returned (.bool false) ∧ w' = w := fun w => has_no R pos 0 w CL.out
            have HQ := Lib.hid hq
            clear hq
            cases h1 : (bt R pos == 92) with
            | true =>
              rw [h1] at e92
              have F : Hid (rd 0 (R.data.toList.drop (pos + 1)) true acc (1 + (pos + 1)) = res) := Lib.hid (by rw [X.out, CL.out, h1, if_neg (by decide), if_pos rfl])
              clear h1
              go_wp2_with fail
              go_quiet ((go_at_call 153; exact Calls.quiet_of_same (HQ.out _)))
              go_wp2_with fail
              go_roundw
              case rel => exact ⟨true, pos + 1, _, rfl, S1.out.drewN _, F.out, hal, hp⟩
              case measure => rw [(S1.out.drewN _).pos, S.out.pos]; omega
            | false =>
              rw [h1] at e92
              have H1 := Lib.hid h1
              clear h1
              go_wp2_with fail
              go_quiet ((go_at_call 153; exact Calls.quiet_of_same (HQ.out _)))
              go_wp2_with fail
              refine (may_any _ _).mono ?_
              cases hok : okB (bt R pos) with
              | true =>
                have OK := Lib.hid hok
                rw [show okZ ((bt R pos).toNat : Int) = true from hok]
                clear hok
                rintro e w4 ⟨rfl, rfl⟩
                have S2 := Lib.hid (S1.out.drewN nq)
                by_cases hfull : acc.length = 1024
                · have F : Hid (res = ([], 0, 3)) := Lib.hid (by rw [X.out, CL.out, if_neg (by decide), H1.out, if_neg (by decide), OK.out, if_neg (by decide), if_pos hfull])
                  have hf : (((acc.length : Nat) : Int) == 1024) = true := by simp; omega
                  clear hfull
                  go_wp2_with fail
                  refine (S2.out.len).mono ?_
                  rintro e w5 ⟨rfl, rfl⟩
                  go_wp2_with fail
                  go_ret3
                  refine ⟨?_, BB.out.trans (S2.out.bel.mono BB.out.size)⟩
                  rw [F.out]
                  rfl
                · have F : Hid (rd 0 (R.data.toList.drop (pos + 1)) false (acc ++ [bt R pos]) (1 + (pos + 1)) = res) := Lib.hid (by rw [X.out, CL.out, if_neg (by decide), H1.out, if_neg (by decide), OK.out, if_neg (by decide), if_neg hfull])
                  have hf : (((acc.length : Nat) : Int) == 1024) = false := by simp; omega
                  have hal2 : acc.length + 1 ≤ 1024 := by omega
                  clear hfull
                  go_wp2_with fail
                  refine (S2.out.len).mono ?_
                  rintro e w5 ⟨rfl, rfl⟩
                  go_wp2_with fail
                  refine (S2.out.writeRune (bt R pos) hlow (by omega)).mono ?_
                  rintro e w6 ⟨rfl, s6⟩
                  have S6 := Lib.hid s6
                  clear s6
                  go_wp2_with fail
                  go_roundw
                  case rel => exact ⟨false, pos + 1, _, rfl, S6.out, F.out, by simp; omega, hp⟩
                  case measure => rw [S6.out.pos, S.out.pos]; omega
              | false =>
                have OK := Lib.hid hok
                rw [show okZ ((bt R pos).toNat : Int) = false from hok]
                clear hok
                rintro e w4 ⟨rfl, rfl⟩
                have S2 := Lib.hid (S1.out.drewN nq)
                have F : Hid (res = ([], 0, 8)) := Lib.hid (by rw [X.out, CL.out, if_neg (by decide), H1.out, if_neg (by decide), OK.out, if_pos rfl])
                go_wp2_with fail
                go_ret3
                refine ⟨?_, BB.out.trans (S2.out.bel.mono BB.out.size)⟩
                rw [F.out]
                rfl
      · have hnx : ∀ ty, (Instr.next (.pointer (some ⟨w2.heap.size + 1, 0, none⟩)) true ty).run Tryz.prog wr = _ := fun ty => Lib.run_next_any_at wr (w2.heap.size + 1) R pos ty S.out.it hp
        have hh := (decode_high R pos hp (by rw [bt_eq R pos hp]; omega)).1
        have S1 := Lib.hid (S.out.next (pos + (Utf8.decode R pos).2))
        have hc1 : (wr.iterAt (w2.heap.size + 1) R (pos + (Utf8.decode R pos).2)).cell? ⟨w1.heap.size, 1, none⟩ = some (.string ⟨#[125]⟩) := by rw [S1.out.cell _ _ hz]; exact c1
        generalize wr.iterAt (w2.heap.size + 1) R (pos + (Utf8.decode R pos).2) = wn at hnx S1 hc1
        generalize (Utf8.decode R pos).2 = qw at S1
        generalize (Utf8.decode R pos).1 = q at hnx hh
        have e92 : ((q : Int) == 92) = false := by simp; omega
        have n92 : ((q : Int) != 92) = true := by simp; omega
        have nc0 : ((q : Int) != wrap32 (((ByteArray.mk #[125])[0]'(by decide)).toNat : Nat)) = true := by
          rw [show wrap32 (((ByteArray.mk #[125])[0]'(by decide)).toNat : Nat) = 125 from IntWalk.wrap32_in 125 (by omega)]
          simp; omega
        cases b with
        | true =>
          have F : Hid (res = ([], 0, 8)) := Lib.hid (by
            rw [← RD.out, DB.out, rd_t, high_ne _ 92 hlow (by decide), show cl0 0 = 125 from rfl, high_ne _ 125 hlow (by decide)]; rfl)
          go_wp2_with fail
          go_ret3
          refine ⟨?_, BB.out.trans (S1.out.bel.mono BB.out.size)⟩
          rw [F.out]
          rfl
        | false =>
          have CL := Lib.hid (high_clos 0 (by unfold Dia; omega) (bt R pos) (R.data.toList.drop (pos + 1)) hlow)
          have F : Hid (res = ([], 0, 8)) := Lib.hid (by
            rw [← RD.out, DB.out, rd_f, CL.out, if_neg (by decide), high_ne _ 92 hlow (by decide), if_neg (by decide), if_pos (show okB (bt R pos) = false from high_bad _ (by omega))])
          have hq : ∀ w, Calls Tryz.prog 153 #[.string (R.extract pos R.size), .string ⟨#[125]⟩] w fun e w' => e = .returned (.bool false) ∧ w' = w := fun w => has_no R pos 0 w (by rw [DB.out]; exact CL.out)
          have HQ := Lib.hid hq
          clear hq
          go_wp2_with fail
          go_quiet ((go_at_call 153; exact Calls.quiet_of_same (HQ.out _)))
          go_wp2_with fail
          refine (may_any _ _).mono ?_
          rw [high_bad _ hh]
          rintro e w4 ⟨rfl, rfl⟩
          go_wp2_with fail
          go_ret3
          refine ⟨?_, BB.out.trans ((S1.out.drewN _).bel.mono BB.out.size)⟩
          rw [F.out]
          rfl
    · have hnx : ∀ ty, (Instr.next (.pointer (some ⟨w2.heap.size + 1, 0, none⟩)) true ty).run Tryz.prog wr = _ := fun ty => Lib.run_next_end_at wr (w2.heap.size + 1) R pos ty S.out.it hp
      have F : Hid (res = ([], 0, 8)) := Lib.hid (by rw [← RD.out, drop_end R pos hp, rd_nil])
      go_wp2_with fail
      go_ret3
      refine ⟨?_, BB.out.trans (S.out.bel.mono BB.out.size)⟩
      rw [F.out]
      rfl
set_option maxHeartbeats 2000000 in
theorem read_yes1 (s R : ByteArray) (res : List UInt8 × Nat × Nat) (w : World) (hR : restA 1 s = R) (hres : rd 1 R.data.toList false [] 2 = res) (hs : R.size + 2 ≤ maxLen) (hb : begs 1 s.data.toList = true) :
    Calls Tryz.prog 154 #[.int .i64 1, .string s] w fun e w' => e = .returned (ans res) ∧ Below w.heap.size w w' := by
  unfold maxLen at hs
  have HB := Lib.hid hb
  have HR := Lib.hid hR
  have RS := Lib.hid hres
  clear hb hR hres
  go_enter Tryz.func154, Tryz.ntmps154
  go_wp2_with fail
  refine (brackets_1 _).mono ?_
  rintro e w1 ⟨rfl, b1⟩
  have B1 := Lib.hid b1
  clear b1
  rw [opA_1, clA_1]
  go_wp2_with fail
  refine (cut_yes 1 s _ HB.out).mono ?_
  rw [HR.out]
  rintro e w2 ⟨rfl, rfl⟩
  have c1 : (w1.alloc (.cells #[.string ⟨#[47, 42]⟩, .string ⟨#[42, 47]⟩] 198)).cell? ⟨w1.heap.size, 1, none⟩ = some (.string ⟨#[42, 47]⟩) := by rw [cell_new]; rfl
  have c0 : (w1.alloc (.cells #[.string ⟨#[47, 42]⟩, .string ⟨#[42, 47]⟩] 198)).cell? ⟨w1.heap.size, 0, none⟩ = some (.string ⟨#[47, 42]⟩) := by rw [cell_new]; rfl
  have hz : w1.heap.size < (w1.alloc (.cells #[.string ⟨#[47, 42]⟩, .string ⟨#[42, 47]⟩] 198)).heap.size := by simp
  have BB := Lib.hid (B1.out.alloc B1.out.size (.cells #[.string ⟨#[47, 42]⟩, .string ⟨#[42, 47]⟩] 198))
  generalize w1.alloc (.cells #[.string ⟨#[47, 42]⟩, .string ⟨#[42, 47]⟩] 198) = w2 at c1 c0 hz BB ⊢
  have ST := Lib.hid (show Bld w2 w2.heap.size (w2.heap.size + 1) R 0 [] ((w2.alloc (.cells #[.pointer none, .slice none 0 0] 169)).iter R 0) by
    have h := Bld.begin (w0 := w2) (w1 := w2.alloc (.cells #[.pointer none, .slice none 0 0] 169)) (s := R) (acc := []) (Lib.IsBuilderF.of (Lib.fresh_isBuilder 169 5 w2)) ((Below.refl _ _).alloc (Nat.le_refl _) _) (by simp)
    rw [show (w2.alloc (.cells #[.pointer none, .slice none 0 0] 169)).heap.size = w2.heap.size + 1 by simp] at h
    exact h)
  go_wp2_with fail
  go_loopw [11] (fun sh wr => ∃ (b : Bool) (pos : Nat) (acc : List UInt8), sh = .bool b ∧ Bld w2 w2.heap.size (w2.heap.size + 1) R pos acc wr ∧ rd 1 (R.data.toList.drop pos) b acc (2 + pos) = res ∧ acc.length ≤ 1024 ∧ pos ≤ R.size) (fun _ wr => R.size - wr.iterPos (w2.heap.size + 1))
  case atStart => exact ⟨false, 0, [], rfl, ST.out, RS.out, by decide, Nat.zero_le _⟩
  case round =>
    obtain ⟨b, pos, acc, rfl, hst, hrd, hal, hps⟩ := hrel
    have S := Lib.hid hst
    have RD := Lib.hid hrd
    clear hst hrd ST RS
    by_cases hp : pos < R.size
    · have DB := Lib.hid (drop_bt R pos hp)
      by_cases hlow : (bt R pos).toNat < 128
      · have hnx := S.out.nextLow hp hlow
        have s1 := S.out.next (pos + 1)
        have S1 := Lib.hid s1
        have hc1 : (wr.iterAt (w2.heap.size + 1) R (pos + 1)).cell? ⟨w1.heap.size, 1, none⟩ = some (.string ⟨#[42, 47]⟩) := by rw [S1.out.cell _ _ hz]; exact c1
        have hc0 : (wr.iterAt (w2.heap.size + 1) R (pos + 1)).cell? ⟨w1.heap.size, 0, none⟩ = some (.string ⟨#[47, 42]⟩) := by rw [S1.out.cell _ _ hz]; exact c0
        clear s1
        generalize wr.iterAt (w2.heap.size + 1) R (pos + 1) = wn at hnx S1 hc1 hc0
        have e92 : (((bt R pos).toNat : Int) == 92) = (bt R pos == 92) := eqb _ 92 (by decide)
        have n92 : (((bt R pos).toNat : Int) != 92) = !(bt R pos == 92) := by unfold bne; rw [e92]
        have nc0 : (((bt R pos).toNat : Int) != wrap32 (((ByteArray.mk #[42, 47])[0]'(by decide)).toNat : Nat)) = !(bt R pos == 42) := by
          rw [show wrap32 (((ByteArray.mk #[42, 47])[0]'(by decide)).toNat : Nat) = 42 from IntWalk.wrap32_in 42 (by omega)]
          unfold bne; rw [show (((bt R pos).toNat : Int) == 42) = (bt R pos == 42) from eqb _ 42 (by decide)]
        cases b with
        | true =>
          have X : Hid (res = if (bt R pos == 92 || bt R pos == 42) = true then (if acc.length = 1024 then ([], 0, 3) else rd 1 (R.data.toList.drop (pos + 1)) false (acc ++ [bt R pos]) (2 + (pos + 1))) else ([], 0, 8)) := Lib.hid (by
            rw [← RD.out, DB.out, rd_t]; rfl)
          cases h1 : (bt R pos == 92) with
          | true =>
            rw [h1] at e92 n92
            have H1 := Lib.hid h1
            clear h1 nc0
            by_cases hfull : acc.length = 1024
            · have F : Hid (res = ([], 0, 3)) := Lib.hid (by rw [X.out, H1.out, if_pos (by rfl), if_pos hfull])
              have hf : (((acc.length : Nat) : Int) == 1024) = true := by simp; omega
              clear hfull
              go_wp2_with fail
              refine (S1.out.len).mono ?_
              rintro e w5 ⟨rfl, rfl⟩
              go_wp2_with fail
              go_ret3
              refine ⟨?_, BB.out.trans (S1.out.bel.mono BB.out.size)⟩
              rw [F.out]
              rfl
            · have F : Hid (rd 1 (R.data.toList.drop (pos + 1)) false (acc ++ [bt R pos]) (2 + (pos + 1)) = res) := Lib.hid (by rw [X.out, H1.out, if_pos (by rfl), if_neg hfull])
              have hf : (((acc.length : Nat) : Int) == 1024) = false := by simp; omega
              have hal2 : acc.length + 1 ≤ 1024 := by omega
              clear hfull
              go_wp2_with fail
              refine (S1.out.len).mono ?_
              rintro e w5 ⟨rfl, rfl⟩
              go_wp2_with fail
              refine (S1.out.writeRune (bt R pos) hlow (by omega)).mono ?_
              rintro e w6 ⟨rfl, s6⟩
              have S6 := Lib.hid s6
              clear s6
              go_wp2_with fail
              go_roundw
              case rel => exact ⟨false, pos + 1, _, rfl, S6.out, F.out, by simp; omega, hp⟩
              case measure => rw [S6.out.pos, S.out.pos]; omega
          | false =>
            rw [h1] at e92 n92
            have H1 := Lib.hid h1
            clear h1
            cases h2 : (bt R pos == 42) with
            | true =>
              rw [h2] at nc0
              have H2 := Lib.hid h2
              clear h2
              by_cases hfull : acc.length = 1024
              · have F : Hid (res = ([], 0, 3)) := Lib.hid (by rw [X.out, H1.out, H2.out, if_pos (by rfl), if_pos hfull])
                have hf : (((acc.length : Nat) : Int) == 1024) = true := by simp; omega
                clear hfull
                go_wp2_with fail
                refine (S1.out.len).mono ?_
                rintro e w5 ⟨rfl, rfl⟩
                go_wp2_with fail
                go_ret3
                refine ⟨?_, BB.out.trans (S1.out.bel.mono BB.out.size)⟩
                rw [F.out]
                rfl
              · have F : Hid (rd 1 (R.data.toList.drop (pos + 1)) false (acc ++ [bt R pos]) (2 + (pos + 1)) = res) := Lib.hid (by rw [X.out, H1.out, H2.out, if_pos (by rfl), if_neg hfull])
                have hf : (((acc.length : Nat) : Int) == 1024) = false := by simp; omega
                have hal2 : acc.length + 1 ≤ 1024 := by omega
                clear hfull
                go_wp2_with fail
                refine (S1.out.len).mono ?_
                rintro e w5 ⟨rfl, rfl⟩
                go_wp2_with fail
                refine (S1.out.writeRune (bt R pos) hlow (by omega)).mono ?_
                rintro e w6 ⟨rfl, s6⟩
                have S6 := Lib.hid s6
                clear s6
                go_wp2_with fail
                go_roundw
                case rel => exact ⟨false, pos + 1, _, rfl, S6.out, F.out, by simp; omega, hp⟩
                case measure => rw [S6.out.pos, S.out.pos]; omega
            | false =>
              rw [h2] at nc0
              have H2 := Lib.hid h2
              clear h2
              have F : Hid (res = ([], 0, 8)) := Lib.hid (by rw [X.out, H1.out, H2.out, if_neg (by decide)])
              go_wp2_with fail
              go_ret3
              refine ⟨?_, BB.out.trans (S1.out.bel.mono BB.out.size)⟩
              rw [F.out]
              rfl
        | false =>
          have X : Hid (res = if clos 1 (R.data.toList.drop pos) = true then (acc, 2 + pos + 2, 0)
              else if (bt R pos == 92) = true then rd 1 (R.data.toList.drop (pos + 1)) true acc (2 + (pos + 1))
              else if okB (bt R pos) = false then ([], 0, 8)
              else if acc.length = 1024 then ([], 0, 3)
              else rd 1 (R.data.toList.drop (pos + 1)) false (acc ++ [bt R pos]) (2 + (pos + 1))) := Lib.hid (by
            rw [← RD.out, DB.out, rd_f]; rfl)
          clear nc0 n92
          cases hcl : clos 1 (R.data.toList.drop pos) with
          | true =>
            have CL := Lib.hid hcl
            clear hcl
            have F : Hid (res = (acc, 2 + pos + 2, 0)) := Lib.hid (by rw [X.out, CL.out, if_pos rfl])
            have hpe : pos + 2 ≤ R.size := clos_size 1 R pos CL.out
            have hq : ∀ w, Calls Tryz.prog 153 #[.string (R.extract pos R.size), .string ⟨#[42, 47]⟩] w fun e w' => e = .returned (.bool true) ∧ w' = w := fun w => has_yes R pos 1 w CL.out
            have HQ := Lib.hid hq
            clear hq e92
            have hst := fun w1' => @Str.call w1.heap.size ⟨#[47, 42]⟩ ⟨#[42, 47]⟩ w2 w1' w2.heap.size (w2.heap.size + 1) R (pos + 1) acc hz
            have STR := Lib.hid hst
            clear hst
            have i1 : IntKind.i64.wrap (2 + (pos : Int)) = 2 + (pos : Int) := IntWalk.i64_in _ (by omega)
            have i2 : IntKind.i64.wrap (2 + (pos : Int) + 2) = 2 + (pos : Int) + 2 := IntWalk.i64_in _ (by omega)
            have I1 := Lib.hid i1
            have I2 := Lib.hid i2
            clear i1 i2
            go_wp2_with fail
            go_quiet ((go_at_call 153; exact Calls.quiet_of_same (HQ.out _)))
            go_wp2_with fail
            have i1 := I1.out
            have i2 := I2.out
            go_region_held3 (fun w' => w'.cell? ⟨w1.heap.size, 0, none⟩ = some (.string ⟨#[47, 42]⟩) ∧ w'.cell? ⟨w1.heap.size, 1, none⟩ = some (.string ⟨#[42, 47]⟩) ∧ Bld w2 w2.heap.size (w2.heap.size + 1) R (pos + 1) acc w')
              (first | assumption | exact ⟨hc0, hc1, (S1.out.drewN _).drew⟩)
              (first | (go_at_call 119; refine (STR.out _ ?_).mono ?_; assumption; rintro e w7 ⟨rfl, s7⟩))
            have S7 := Lib.hid s7.2.2
            clear s7 i1 i2
            go_wp2_with fail
            go_ret3
            refine ⟨Eq.trans (ans_ok acc _ (2 + pos + 2) (by omega)) (by rw [F.out]), BB.out.trans (S7.out.bel.mono BB.out.size)⟩
          | false =>
            have CL := Lib.hid hcl
            clear hcl
            have hq : ∀ w, Calls Tryz.prog 153 #[.string (R.extract pos R.size), .string ⟨#[42, 47]⟩] w fun e w' => e = .returned (.bool false) ∧ w' = w := fun w => has_no R pos 1 w CL.out
            have HQ := Lib.hid hq
            clear hq
            cases h1 : (bt R pos == 92) with
            | true =>
              rw [h1] at e92
              have F : Hid (rd 1 (R.data.toList.drop (pos + 1)) true acc (2 + (pos + 1)) = res) := Lib.hid (by rw [X.out, CL.out, h1, if_neg (by decide), if_pos rfl])
              clear h1
              go_wp2_with fail
              go_quiet ((go_at_call 153; exact Calls.quiet_of_same (HQ.out _)))
              go_wp2_with fail
              go_roundw
              case rel => exact ⟨true, pos + 1, _, rfl, S1.out.drewN _, F.out, hal, hp⟩
              case measure => rw [(S1.out.drewN _).pos, S.out.pos]; omega
            | false =>
              rw [h1] at e92
              have H1 := Lib.hid h1
              clear h1
              go_wp2_with fail
              go_quiet ((go_at_call 153; exact Calls.quiet_of_same (HQ.out _)))
              go_wp2_with fail
              refine (may_any _ _).mono ?_
              cases hok : okB (bt R pos) with
              | true =>
                have OK := Lib.hid hok
                rw [show okZ ((bt R pos).toNat : Int) = true from hok]
                clear hok
                rintro e w4 ⟨rfl, rfl⟩
                have S2 := Lib.hid (S1.out.drewN nq)
                by_cases hfull : acc.length = 1024
                · have F : Hid (res = ([], 0, 3)) := Lib.hid (by rw [X.out, CL.out, if_neg (by decide), H1.out, if_neg (by decide), OK.out, if_neg (by decide), if_pos hfull])
                  have hf : (((acc.length : Nat) : Int) == 1024) = true := by simp; omega
                  clear hfull
                  go_wp2_with fail
                  refine (S2.out.len).mono ?_
                  rintro e w5 ⟨rfl, rfl⟩
                  go_wp2_with fail
                  go_ret3
                  refine ⟨?_, BB.out.trans (S2.out.bel.mono BB.out.size)⟩
                  rw [F.out]
                  rfl
                · have F : Hid (rd 1 (R.data.toList.drop (pos + 1)) false (acc ++ [bt R pos]) (2 + (pos + 1)) = res) := Lib.hid (by rw [X.out, CL.out, if_neg (by decide), H1.out, if_neg (by decide), OK.out, if_neg (by decide), if_neg hfull])
                  have hf : (((acc.length : Nat) : Int) == 1024) = false := by simp; omega
                  have hal2 : acc.length + 1 ≤ 1024 := by omega
                  clear hfull
                  go_wp2_with fail
                  refine (S2.out.len).mono ?_
                  rintro e w5 ⟨rfl, rfl⟩
                  go_wp2_with fail
                  refine (S2.out.writeRune (bt R pos) hlow (by omega)).mono ?_
                  rintro e w6 ⟨rfl, s6⟩
                  have S6 := Lib.hid s6
                  clear s6
                  go_wp2_with fail
                  go_roundw
                  case rel => exact ⟨false, pos + 1, _, rfl, S6.out, F.out, by simp; omega, hp⟩
                  case measure => rw [S6.out.pos, S.out.pos]; omega
              | false =>
                have OK := Lib.hid hok
                rw [show okZ ((bt R pos).toNat : Int) = false from hok]
                clear hok
                rintro e w4 ⟨rfl, rfl⟩
                have S2 := Lib.hid (S1.out.drewN nq)
                have F : Hid (res = ([], 0, 8)) := Lib.hid (by rw [X.out, CL.out, if_neg (by decide), H1.out, if_neg (by decide), OK.out, if_pos rfl])
                go_wp2_with fail
                go_ret3
                refine ⟨?_, BB.out.trans (S2.out.bel.mono BB.out.size)⟩
                rw [F.out]
                rfl
      · have hnx : ∀ ty, (Instr.next (.pointer (some ⟨w2.heap.size + 1, 0, none⟩)) true ty).run Tryz.prog wr = _ := fun ty => Lib.run_next_any_at wr (w2.heap.size + 1) R pos ty S.out.it hp
        have hh := (decode_high R pos hp (by rw [bt_eq R pos hp]; omega)).1
        have S1 := Lib.hid (S.out.next (pos + (Utf8.decode R pos).2))
        have hc1 : (wr.iterAt (w2.heap.size + 1) R (pos + (Utf8.decode R pos).2)).cell? ⟨w1.heap.size, 1, none⟩ = some (.string ⟨#[42, 47]⟩) := by rw [S1.out.cell _ _ hz]; exact c1
        generalize wr.iterAt (w2.heap.size + 1) R (pos + (Utf8.decode R pos).2) = wn at hnx S1 hc1
        generalize (Utf8.decode R pos).2 = qw at S1
        generalize (Utf8.decode R pos).1 = q at hnx hh
        have e92 : ((q : Int) == 92) = false := by simp; omega
        have n92 : ((q : Int) != 92) = true := by simp; omega
        have nc0 : ((q : Int) != wrap32 (((ByteArray.mk #[42, 47])[0]'(by decide)).toNat : Nat)) = true := by
          rw [show wrap32 (((ByteArray.mk #[42, 47])[0]'(by decide)).toNat : Nat) = 42 from IntWalk.wrap32_in 42 (by omega)]
          simp; omega
        cases b with
        | true =>
          have F : Hid (res = ([], 0, 8)) := Lib.hid (by
            rw [← RD.out, DB.out, rd_t, high_ne _ 92 hlow (by decide), show cl0 1 = 42 from rfl, high_ne _ 42 hlow (by decide)]; rfl)
          go_wp2_with fail
          go_ret3
          refine ⟨?_, BB.out.trans (S1.out.bel.mono BB.out.size)⟩
          rw [F.out]
          rfl
        | false =>
          have CL := Lib.hid (high_clos 1 (by unfold Dia; omega) (bt R pos) (R.data.toList.drop (pos + 1)) hlow)
          have F : Hid (res = ([], 0, 8)) := Lib.hid (by
            rw [← RD.out, DB.out, rd_f, CL.out, if_neg (by decide), high_ne _ 92 hlow (by decide), if_neg (by decide), if_pos (show okB (bt R pos) = false from high_bad _ (by omega))])
          have hq : ∀ w, Calls Tryz.prog 153 #[.string (R.extract pos R.size), .string ⟨#[42, 47]⟩] w fun e w' => e = .returned (.bool false) ∧ w' = w := fun w => has_no R pos 1 w (by rw [DB.out]; exact CL.out)
          have HQ := Lib.hid hq
          clear hq
          go_wp2_with fail
          go_quiet ((go_at_call 153; exact Calls.quiet_of_same (HQ.out _)))
          go_wp2_with fail
          refine (may_any _ _).mono ?_
          rw [high_bad _ hh]
          rintro e w4 ⟨rfl, rfl⟩
          go_wp2_with fail
          go_ret3
          refine ⟨?_, BB.out.trans ((S1.out.drewN _).bel.mono BB.out.size)⟩
          rw [F.out]
          rfl
    · have hnx : ∀ ty, (Instr.next (.pointer (some ⟨w2.heap.size + 1, 0, none⟩)) true ty).run Tryz.prog wr = _ := fun ty => Lib.run_next_end_at wr (w2.heap.size + 1) R pos ty S.out.it hp
      have F : Hid (res = ([], 0, 8)) := Lib.hid (by rw [← RD.out, drop_end R pos hp, rd_nil])
      go_wp2_with fail
      go_ret3
      refine ⟨?_, BB.out.trans (S.out.bel.mono BB.out.size)⟩
      rw [F.out]
      rfl
theorem begs_size (d : Int) (s : ByteArray) (h : begs d s.data.toList = true) : (restA d s).size + (opL d).length = s.size := by
  have h1 := (List.isPrefixOf_iff_prefix.1 h).length_le
  rw [len_size] at h1
  rw [← len_size (restA d s), restA_l, List.length_drop, len_size]
  omega
theorem read_any (d : Int) (s : ByteArray) (w : World) (hs : s.size ≤ maxLen) :
    Calls Tryz.prog 154 #[.int .i64 d, .string s] w fun e w' => e = .returned (ans (readL d s.data.toList)) ∧ Below w.heap.size w w' := by
  unfold readL
  by_cases hd : Dia d
  · rw [hd.b, if_neg (by decide)]
    cases hb : begs d s.data.toList with
    | false => rw [if_pos rfl]; exact read_not d s w hd hb
    | true =>
      rw [if_neg (by decide)]
      have hz := begs_size d s hb
      rcases hd with rfl | rfl
      · exact read_yes0 s (restA 0 s) _ w rfl rfl (by rw [show (opL 0).length = 1 from rfl] at hz; omega) hb
      · exact read_yes1 s (restA 1 s) _ w rfl rfl (by rw [show (opL 1).length = 2 from rfl] at hz; omega) hb
  · rw [not_dia hd, if_pos rfl]
    exact read_no d s w hd
end Go.Proofs.YtpcldpnaljheoaaGreatDoor.X
end
section
namespace Go.Proofs.YtpcldpnaljheoaaGreatDoor.X.P
open Go.RowKit Go.Sort

theorem note_ok {l : List UInt8} {t : List UInt8} {u e : Nat} (h : readL 0 l = (t, u, e)) (he : e = 0) : noteL l = ⟨6, t, 0, u, 0⟩ := by
  unfold noteL; rw [h, if_pos he]
theorem note_bad {l : List UInt8} {t : List UInt8} {u e : Nat} (h : readL 0 l = (t, u, e)) (he : e ≠ 0) : noteL l = bad e := by
  unfold noteL; rw [h, if_neg he]
set_option maxHeartbeats 1000000 in
theorem comment_tok (p c k : Nat) (s : ByteArray) (r : List UInt8) (w : World) (h : ScAt w p c s k) (hs : s.size ≤ maxLen) (hr : s.data.toList.drop k = 123 :: r) :
    Calls Tryz.prog 111 #[.pointer (some ⟨p, 0, none⟩)] w (TokPost c s k (noteL (123 :: r)) w) := by
  have hcl := h.cur.lt
  have hpl := h.lt
  have hk := h.cur.le
  have hlen : r.length + 1 = s.size - k := by have := congrArg List.length hr; rw [List.length_drop, len_size, List.length_cons] at this; omega
  have hu := note_use r
  have H := Lib.hid h
  clear h
  have hR := fun w1 => read_any 0 (restOf s k) w1 (by rw [restOf_size]; omega)
  rw [restOf_l, hr] at hR
  obtain ⟨t, u, e, hq⟩ : ∃ t u e, readL 0 (123 :: r) = (t, u, e) := ⟨_, _, _, rfl⟩
  rw [hq] at hR
  unfold ans at hR
  have hR : ∀ w1, Calls Tryz.prog 154 #[.int .i64 0, .string (restOf s k)] w1 fun e_1 w' => e_1 = .returned (.tuple #[.string ⟨t.toArray⟩, .int .i64 (u : Nat), .int .i64 (e : Nat)]) ∧ Below w1.heap.size w1 w' := hR
  have HR := Lib.hid hR
  have HRS := Lib.hid fun w1 hw => rest_any p c k s w1 hw
  clear hR hr
  by_cases he : e = 0
  · rw [note_ok hq he] at hu ⊢
    have hu2 := (hu rfl).2.1
    have d1 : ((e : Int) != 0) = false := by subst he; rfl
    clear hu hq
    have HE := Lib.hid he
    clear he
    go_enter Tryz.func111, Tryz.ntmps111
    go_wp2_with fail
    have Z := Lib.hid (TokZ.new w)
    have B := Lib.hid (show Below w.heap.size w (w.alloc (.cells #[.int .i64 0, .string ⟨#[]⟩, .int .i64 0, .bool false, .int .i64 0, .int .i64 0, .int .i64 0] 50)) from (Below.refl _ _).alloc (Nat.le_refl _) _)
    have H0 := Lib.hid (H.out.alloc (.cells #[.int .i64 0, .string ⟨#[]⟩, .int .i64 0, .bool false, .int .i64 0, .int .i64 0, .int .i64 0] 50))
    generalize w.alloc (.cells #[.int .i64 0, .string ⟨#[]⟩, .int .i64 0, .bool false, .int .i64 0, .int .i64 0, .int .i64 0] 50) = w0 at Z B H0 ⊢
    have k1 := cell_regrown H0.out.c1
    have kf := (fun d os => (Z.out.below (below_regrown w0 d os)).facts)
    have cS : ∀ d os, Calls Tryz.prog 110 #[.pointer (some ⟨p, 0, none⟩)] (grow (redrawn w0 d) os) fun e w'' => e = .returned (.string (restOf s k)) ∧ ∃ p : Regrown, w'' = grow (redrawn w0 p.d) p.os := fun d os =>
      Calls.regrown_of (HRS.out _ (H0.out.below (below_regrown w0 d os)))
    have cR : ∀ d os, Calls Tryz.prog 154 #[.int .i64 0, .string (restOf s k)] (grow (redrawn w0 d) os) fun e_1 w'' => e_1 = .returned (.tuple #[.string ⟨t.toArray⟩, .int .i64 (u : Nat), .int .i64 (e : Nat)]) ∧ ∃ p : Regrown, w'' = grow (redrawn w0 p.d) p.os := fun d os =>
      Calls.regrown_of (HR.out _)
    have CS := Lib.hid cS
    have CR := Lib.hid cR
    clear cS cR kf
    refine wp_region_quiet_below (by kernel_rfl) (by kernel_rfl) ?_
    repeat (first | go_big_quiet_step ((first | with_reducible exact CS.out _ _ | with_reducible exact CR.out _ _)) | quiet_step ((first | with_reducible exact CS.out _ _ | with_reducible exact CR.out _ _)))
    refine wpQuiet_nil ?_
    intro w1 hw'
    obtain ⟨⟨dq, osq⟩, hw''⟩ := hw'
    have b1 : Below w0.heap.size w0 w1 := by rw [hw'']; exact below_regrown w0 dq osq
    have H1 := Lib.hid (H0.out.below b1)
    have Z1 := Lib.hid (Z.out.below b1)
    have B1 := Lib.hid (B.out.trans (b1.mono B.out.size))
    have h01 := H1.out.c0
    clear hw'' b1 k1 CS CR Z B H0
    go_wp2_with fail
    refine (skip_any c k (u : Int) s _ H1.out.cur hs).mono ?_
    rw [show skipN (u : Int) k s = u by unfold skipN; omega]
    rintro e w4 ⟨rfl, c4, o4⟩
    have C4 := Lib.hid c4
    have O4 := Lib.hid ((Only.ofBelow B1.out (Nat.le_refl _)).trans o4)
    have Z4 := Lib.hid (Z1.out.only o4 (by omega))
    obtain ⟨g0, g1, g2, g3, g4, g5, g6, gf⟩ := Z4.out.facts
    clear c4 o4 h01
    go_wp2_with fail
    exact bodyPost_ret (v := .tuple #[tokV ⟨6, t, 0, u, 0⟩, .int .i64 0]) (by simp [results, Tryz.results111, go_sem, tokV, g0, g1, g2, g3, g4, g5, g6]) rfl (post7 (f := ⟨6, t, 0, u, 0⟩) (Nat.le_refl _) (by omega) O4.out (fun _ => C4.out) _ _ _ _ _ _ _)
  · rw [note_bad hq he]
    have d1 : ((e : Int) != 0) = true := by simp; omega
    clear hu hq
    go_enter Tryz.func111, Tryz.ntmps111
    go_wp2_with fail
    have Z := Lib.hid (TokZ.new w)
    have B := Lib.hid (show Below w.heap.size w (w.alloc (.cells #[.int .i64 0, .string ⟨#[]⟩, .int .i64 0, .bool false, .int .i64 0, .int .i64 0, .int .i64 0] 50)) from (Below.refl _ _).alloc (Nat.le_refl _) _)
    have H0 := Lib.hid (H.out.alloc (.cells #[.int .i64 0, .string ⟨#[]⟩, .int .i64 0, .bool false, .int .i64 0, .int .i64 0, .int .i64 0] 50))
    generalize w.alloc (.cells #[.int .i64 0, .string ⟨#[]⟩, .int .i64 0, .bool false, .int .i64 0, .int .i64 0, .int .i64 0] 50) = w0 at Z B H0 ⊢
    have k1 := cell_regrown H0.out.c1
    have kf := (fun d os => (Z.out.below (below_regrown w0 d os)).facts)
    have cS : ∀ d os, Calls Tryz.prog 110 #[.pointer (some ⟨p, 0, none⟩)] (grow (redrawn w0 d) os) fun e w'' => e = .returned (.string (restOf s k)) ∧ ∃ p : Regrown, w'' = grow (redrawn w0 p.d) p.os := fun d os =>
      Calls.regrown_of (HRS.out _ (H0.out.below (below_regrown w0 d os)))
    have cR : ∀ d os, Calls Tryz.prog 154 #[.int .i64 0, .string (restOf s k)] (grow (redrawn w0 d) os) fun e_1 w'' => e_1 = .returned (.tuple #[.string ⟨t.toArray⟩, .int .i64 (u : Nat), .int .i64 (e : Nat)]) ∧ ∃ p : Regrown, w'' = grow (redrawn w0 p.d) p.os := fun d os =>
      Calls.regrown_of (HR.out _)
    have CS := Lib.hid cS
    have CR := Lib.hid cR
    clear cS cR kf
    refine wp_region_quiet_below (by kernel_rfl) (by kernel_rfl) ?_
    repeat (first | go_big_quiet_step ((first | with_reducible exact CS.out _ _ | with_reducible exact CR.out _ _)) | quiet_step ((first | with_reducible exact CS.out _ _ | with_reducible exact CR.out _ _)))
    refine wpQuiet_nil ?_
    intro w1 hw'
    obtain ⟨⟨dq, osq⟩, hw''⟩ := hw'
    have b1 : Below w0.heap.size w0 w1 := by rw [hw'']; exact below_regrown w0 dq osq
    have H1 := Lib.hid (H0.out.below b1)
    have Z1 := Lib.hid (Z.out.below b1)
    have B1 := Lib.hid (B.out.trans (b1.mono B.out.size))
    have h01 := H1.out.c0
    clear hw'' b1 k1 CS CR Z B H0
    obtain ⟨g0, g1, g2, g3, g4, g5, g6, gf⟩ := Z1.out.facts
    go_wp2_with fail
    exact bodyPost_ret (v := .tuple #[tokV (bad e), .int .i64 (e : Nat)]) (by simp [results, Tryz.results111, go_sem, tokV, bad, g0, g1, g2, g3, g4, g5, g6]) rfl (post7 (f := bad e) (Nat.le_refl _) (by omega) (Only.ofBelow B1.out (Nat.le_refl _)) (fun h => absurd h he) _ _ _ _ _ _ _)
end Go.Proofs.YtpcldpnaljheoaaGreatDoor.X.P
end
