/-
  Texts of this proof, put together.
-/
import Derived.Shelf.Strings.BuilderRune
import Derived.Shelf.Strings.BuilderK
import Derived.Test.YtciijpahjjoppaaGreatPc2
import Derived.WalkKit
import Derived.Deep.Draws
import Derived.Lib.Strings
import Derived.Test.YtciijpahjjoppaaGreatRows
import Derived.WalkSpells
import Derived.WalkLawsBesides
import Derived.BigQuiet
import Derived.Deep.QuietTactic
import Derived.Lib.Hide
import Derived.Lib.OthersKept
import Derived.IntWalk
import Derived.Test.YtciijpahjjoppaaGreatPc6
import Derived.Test.YtciijpahjjoppaaGreatPc3
section
namespace Go.Proofs
def Tryz.lays166_ren : Go.Shelf.Ren := ⟨fun | 166 => 143 | 240 => 155 | 276 => 161 | n => n, fun | 0 => 0 | 3 => 3 | 4 => 4 | 9 => 9 | 20 => 20 | 37 => 184 | 70 => 183 | 72 => 186 | 75 => 189 | 164 => 205 | 80 => 192 | n => n, fun | n => n⟩
theorem Tryz.lays166 : Go.Proofs.Lays.n166 Tryz.prog Tryz.lays166_ren := {
  mixed := by kernel_rfl
  f166 := Tryz.func143.trans (congrArg some (by kernel_rfl))
  f240 := Tryz.func155.trans (congrArg some (by kernel_rfl))
  f276 := Tryz.func161.trans (congrArg some (by kernel_rfl))
  t0 := Tryz.underlying0
  a0 := Tryz.isAgg0
  z0 := Tryz.sizeOf0
  v0 := Tryz.zeroValue0
  t3 := Tryz.underlying3
  a3 := Tryz.isAgg3
  z3 := Tryz.sizeOf3
  v3 := Tryz.zeroValue3
  t4 := Tryz.underlying4
  a4 := Tryz.isAgg4
  z4 := Tryz.sizeOf4
  v4 := Tryz.zeroValue4
  t9 := Tryz.underlying9
  a9 := Tryz.isAgg9
  z9 := Tryz.sizeOf9
  v9 := Tryz.zeroValue9
  t20 := Tryz.underlying20
  a20 := Tryz.isAgg20
  z20 := Tryz.sizeOf20
  v20 := Tryz.zeroValue20
  t37 := Tryz.underlying184
  a37 := Tryz.isAgg184
  z37 := Tryz.sizeOf184
  v37 := Tryz.zeroValue184
  t70 := Tryz.underlying183
  a70 := Tryz.isAgg183
  z70 := Tryz.sizeOf183
  v70 := Tryz.zeroValue183
  t72 := Tryz.underlying186
  a72 := Tryz.isAgg186
  z72 := Tryz.sizeOf186
  v72 := Tryz.zeroValue186
  t75 := Tryz.underlying189
  a75 := Tryz.isAgg189
  z75 := Tryz.sizeOf189
  v75 := Tryz.zeroValue189
  t164 := Tryz.underlying205
  a164 := Tryz.isAgg205
  z164 := Tryz.sizeOf205
  v164 := Tryz.zeroValue205 }
def Tryz.lays167_ren : Go.Shelf.Ren := ⟨fun | 167 => 151 | 240 => 155 | 276 => 161 | n => n, fun | 0 => 0 | 4 => 4 | 5 => 5 | 9 => 9 | 20 => 20 | 37 => 184 | 70 => 183 | 72 => 186 | 75 => 189 | 164 => 205 | 80 => 192 | n => n, fun | n => n⟩
theorem Tryz.lays167 : Go.Proofs.Lays.n167 Tryz.prog Tryz.lays167_ren := {
  mixed := by kernel_rfl
  f167 := Tryz.func151.trans (congrArg some (by kernel_rfl))
  f240 := Tryz.func155.trans (congrArg some (by kernel_rfl))
  f276 := Tryz.func161.trans (congrArg some (by kernel_rfl))
  t0 := Tryz.underlying0
  a0 := Tryz.isAgg0
  z0 := Tryz.sizeOf0
  v0 := Tryz.zeroValue0
  t4 := Tryz.underlying4
  a4 := Tryz.isAgg4
  z4 := Tryz.sizeOf4
  v4 := Tryz.zeroValue4
  t5 := Tryz.underlying5
  a5 := Tryz.isAgg5
  z5 := Tryz.sizeOf5
  v5 := Tryz.zeroValue5
  t9 := Tryz.underlying9
  a9 := Tryz.isAgg9
  z9 := Tryz.sizeOf9
  v9 := Tryz.zeroValue9
  t20 := Tryz.underlying20
  a20 := Tryz.isAgg20
  z20 := Tryz.sizeOf20
  v20 := Tryz.zeroValue20
  t37 := Tryz.underlying184
  a37 := Tryz.isAgg184
  z37 := Tryz.sizeOf184
  v37 := Tryz.zeroValue184
  t70 := Tryz.underlying183
  a70 := Tryz.isAgg183
  z70 := Tryz.sizeOf183
  v70 := Tryz.zeroValue183
  t72 := Tryz.underlying186
  a72 := Tryz.isAgg186
  z72 := Tryz.sizeOf186
  v72 := Tryz.zeroValue186
  t75 := Tryz.underlying189
  a75 := Tryz.isAgg189
  z75 := Tryz.sizeOf189
  v75 := Tryz.zeroValue189
  t164 := Tryz.underlying205
  a164 := Tryz.isAgg205
  z164 := Tryz.sizeOf205
  v164 := Tryz.zeroValue205 }
def Tryz.lays168_ren : Go.Shelf.Ren := ⟨fun | 168 => 152 | 240 => 155 | 242 => 159 | 276 => 161 | 278 => 163 | n => n, fun | 0 => 0 | 3 => 3 | 4 => 4 | 5 => 5 | 9 => 9 | 20 => 20 | 21 => 21 | 37 => 184 | 46 => 211 | 51 => 208 | 70 => 183 | 72 => 186 | 75 => 189 | 164 => 205 | 80 => 192 | n => n, fun | n => n⟩
theorem Tryz.lays168 : Go.Proofs.Lays.n168 Tryz.prog Tryz.lays168_ren := {
  mixed := by kernel_rfl
  f168 := Tryz.func152.trans (congrArg some (by kernel_rfl))
  f240 := Tryz.func155.trans (congrArg some (by kernel_rfl))
  f242 := Tryz.func159.trans (congrArg some (by kernel_rfl))
  f276 := Tryz.func161.trans (congrArg some (by kernel_rfl))
  f278 := Tryz.func163.trans (congrArg some (by kernel_rfl))
  t0 := Tryz.underlying0
  a0 := Tryz.isAgg0
  z0 := Tryz.sizeOf0
  v0 := Tryz.zeroValue0
  t3 := Tryz.underlying3
  a3 := Tryz.isAgg3
  z3 := Tryz.sizeOf3
  v3 := Tryz.zeroValue3
  t4 := Tryz.underlying4
  a4 := Tryz.isAgg4
  z4 := Tryz.sizeOf4
  v4 := Tryz.zeroValue4
  t5 := Tryz.underlying5
  a5 := Tryz.isAgg5
  z5 := Tryz.sizeOf5
  v5 := Tryz.zeroValue5
  t9 := Tryz.underlying9
  a9 := Tryz.isAgg9
  z9 := Tryz.sizeOf9
  v9 := Tryz.zeroValue9
  t20 := Tryz.underlying20
  a20 := Tryz.isAgg20
  z20 := Tryz.sizeOf20
  v20 := Tryz.zeroValue20
  t21 := Tryz.underlying21
  a21 := Tryz.isAgg21
  z21 := Tryz.sizeOf21
  v21 := Tryz.zeroValue21
  t37 := Tryz.underlying184
  a37 := Tryz.isAgg184
  z37 := Tryz.sizeOf184
  v37 := Tryz.zeroValue184
  t46 := Tryz.underlying211
  a46 := Tryz.isAgg211
  z46 := Tryz.sizeOf211
  v46 := Tryz.zeroValue211
  t51 := Tryz.underlying208
  a51 := Tryz.isAgg208
  z51 := Tryz.sizeOf208
  v51 := Tryz.zeroValue208
  t70 := Tryz.underlying183
  a70 := Tryz.isAgg183
  z70 := Tryz.sizeOf183
  v70 := Tryz.zeroValue183
  t72 := Tryz.underlying186
  a72 := Tryz.isAgg186
  z72 := Tryz.sizeOf186
  v72 := Tryz.zeroValue186
  t75 := Tryz.underlying189
  a75 := Tryz.isAgg189
  z75 := Tryz.sizeOf189
  v75 := Tryz.zeroValue189
  t164 := Tryz.underlying205
  a164 := Tryz.isAgg205
  z164 := Tryz.sizeOf205
  v164 := Tryz.zeroValue205 }
theorem Tryz.Builder_Extra_166 : Builder.Extra Tryz.prog Tryz.lays166_ren := {
  sizeBuilder := by kernel_rfl
  liesBuilder := by kernel_rfl
  t5 := Tryz.underlying5
  a5 := Tryz.isAgg5
  z5 := Tryz.sizeOf5
  v5 := Tryz.zeroValue5
  infoByte := by kernel_rfl
  cellsByte := by kernel_rfl
  sizeByte := by kernel_rfl
  neB5 := by decide }
theorem Tryz.Builder_Extra_167 : Builder.Extra Tryz.prog Tryz.lays167_ren := {
  sizeBuilder := by kernel_rfl
  liesBuilder := by kernel_rfl
  t5 := Tryz.underlying5
  a5 := Tryz.isAgg5
  z5 := Tryz.sizeOf5
  v5 := Tryz.zeroValue5
  infoByte := by kernel_rfl
  cellsByte := by kernel_rfl
  sizeByte := by kernel_rfl
  neB5 := by decide }
theorem Tryz.Builder_Extra_168 : Builder.Extra Tryz.prog Tryz.lays168_ren := {
  sizeBuilder := by kernel_rfl
  liesBuilder := by kernel_rfl
  t5 := Tryz.underlying5
  a5 := Tryz.isAgg5
  z5 := Tryz.sizeOf5
  v5 := Tryz.zeroValue5
  infoByte := by kernel_rfl
  cellsByte := by kernel_rfl
  sizeByte := by kernel_rfl
  neB5 := by decide }
open Go.RowKit in
theorem Tryz.Builder_WriteByte_k (B b : Nat) (bs : List Value) (c : Int) (w : World) (h : Lib.IsBuilderF 186 5 B b bs w) (hlen : bs.length + 1 ≤ 140737488355328) (hBw : B ≤ w.heap.size) :
    Calls Tryz.prog 151 #[.pointer (some ⟨b, 0, none⟩), .int .u8 c] w fun e w' => e = .returned .nilIface ∧ (Lib.BuilderAtF 186 5 B b (.pointer (some ⟨b, 0, none⟩)) (bs ++ [.int .u8 c]) w' ∧ Below B w w' ∧ Lib.OthersKept 5 (some b) w w') := Any.Builder_WriteByte_k Tryz.lays167 Tryz.Builder_Extra_167 B b bs c w h hlen hBw
open Go.RowKit in
theorem Tryz.Builder_WriteString_k (B b : Nat) (bs : List Value) (s : ByteArray) (w : World) (h : Lib.IsBuilderF 186 5 B b bs w) (hlen : bs.length + s.size ≤ 140737488355328) (hBw : B ≤ w.heap.size) :
    Calls Tryz.prog 143 #[.pointer (some ⟨b, 0, none⟩), .string s] w fun e w' => e = .returned (.tuple #[.int .i64 s.size, .nilIface]) ∧ (Lib.BuilderAtF 186 5 B b (.pointer (some ⟨b, 0, none⟩)) (bs ++ Lib.strCells s) w' ∧ Below B w w' ∧ Lib.OthersKept 5 (some b) w w') := Any.Builder_WriteString_k Tryz.lays166 Tryz.Builder_Extra_166 B b bs s w h hlen hBw
open Go.RowKit in
theorem Tryz.Builder_WriteRune_k (B b : Nat) (bs : List Value) (r : Int) (hr0 : -2147483648 ≤ r) (hr1 : r ≤ 2147483647) (w : World) (h : Lib.IsBuilderF 186 5 B b bs w) (hlen : bs.length + 4 ≤ 140737488355328) (hBw : B ≤ w.heap.size) :
    Calls Tryz.prog 152 #[.pointer (some ⟨b, 0, none⟩), .int .i32 r] w fun e w' => e = .returned (.tuple #[.int .i64 (Lib.runeCells r).length, .nilIface]) ∧ (Lib.BuilderAtF 186 5 B b (.pointer (some ⟨b, 0, none⟩)) (bs ++ Lib.runeCells r) w' ∧ Below B w w' ∧ Lib.OthersKept 5 (some b) w w') := Any.Builder_WriteRune_k Tryz.lays168 Tryz.Builder_Extra_168 B b bs r hr0 hr1 w h hlen hBw
end Go.Proofs
end
section
namespace Go.Proofs.YtciijpahjjoppaaGreat.N2
open Go.RowKit

def bt (s : ByteArray) (k : Nat) : UInt8 := s.data.toList.getD k 0
theorem bt_eq (s : ByteArray) (k : Nat) (h : k < s.size) : s[k] = bt s k := by
  unfold bt
  rw [List.getD_eq_getElem?_getD, List.getElem?_eq_getElem (by simpa using h)]; rfl
theorem drop_bt (s : ByteArray) (k : Nat) (h : k < s.size) : s.data.toList.drop k = bt s k :: s.data.toList.drop (k + 1) := by
  rw [List.drop_eq_getElem_cons (by simpa using h), ← bt_eq s k h]; rfl
theorem take_bt (s : ByteArray) (k : Nat) (h : k < s.size) : s.data.toList.take (k + 1) = s.data.toList.take k ++ [bt s k] := by
  rw [List.take_succ_eq_append_getElem (by simpa using h), ← bt_eq s k h]; rfl
theorem drop_end (s : ByteArray) (k : Nat) (h : ¬ k < s.size) : s.data.toList.drop k = [] := by
  apply List.drop_eq_nil_of_le; simp; omega
theorem len_size (s : ByteArray) : s.data.toList.length = s.size := by simp

/-- May a text have it? (of a rune) -/
def okZ (r : Int) : Bool := r == 9 || r == 10 || (decide (32 ≤ r) && decide (r ≤ 126))
def okB (c : UInt8) : Bool := okZ c.toNat
def opL (d : Int) : List UInt8 := if d = 0 then [123] else [47, 42]
def clL (d : Int) : List UInt8 := if d = 0 then [125] else [42, 47]
def cl0 (d : Int) : UInt8 := if d = 0 then 125 else 42
def opA (d : Int) : ByteArray := ⟨(opL d).toArray⟩
def clA (d : Int) : ByteArray := ⟨(clL d).toArray⟩
theorem opA_l (d : Int) : (opA d).data.toList = opL d := rfl
theorem clA_l (d : Int) : (clA d).data.toList = clL d := rfl
theorem opA_0 : opA 0 = ⟨#[123]⟩ := rfl
theorem opA_1 : opA 1 = ⟨#[47, 42]⟩ := rfl
theorem clA_0 : clA 0 = ⟨#[125]⟩ := rfl
theorem clA_1 : clA 1 = ⟨#[42, 47]⟩ := rfl
/-- Does the closing begin here? -/
def clos (d : Int) (l : List UInt8) : Bool := Lib.hasPrefix l (clL d)
def begs (d : Int) (l : List UInt8) : Bool := Lib.hasPrefix l (opL d)
def shield (d : Int) (c : UInt8) (r : List UInt8) : Bool := c == 92 || clos d (c :: r)
def body (d : Int) : List UInt8 → List UInt8
  | [] => []
  | c :: r => (if shield d c r then [92, c] else [c]) ++ body d r
def form (d : Int) (l : List UInt8) : List UInt8 := opL d ++ body d l ++ clL d
def rd (d : Int) : List UInt8 → Bool → List UInt8 → Nat → List UInt8 × Nat × Nat
  | [], _, _, _ => ([], 0, 8)
  | c :: r, true, acc, u => if (c == 92 || c == cl0 d) = true then (if acc.length = 1024 then ([], 0, 3) else rd d r false (acc ++ [c]) (u + 1)) else ([], 0, 8)
  | c :: r, false, acc, u =>
    if clos d (c :: r) = true then (acc, u + (clL d).length, 0)
    else if (c == 92) = true then rd d r true acc (u + 1)
    else if okB c = false then ([], 0, 8)
    else if acc.length = 1024 then ([], 0, 3)
    else rd d r false (acc ++ [c]) (u + 1)
def Dia (d : Int) : Prop := d = 0 ∨ d = 1
def diaB (d : Int) : Bool := d == 0 || d == 1
theorem Dia.b {d : Int} (h : Dia d) : diaB d = true := by rcases h with rfl | rfl <;> rfl
theorem not_dia {d : Int} (h : ¬ Dia d) : diaB d = false := by
  unfold diaB; unfold Dia at h; simp; omega
def readL (d : Int) (l : List UInt8) : List UInt8 × Nat × Nat :=
  if diaB d = false then ([], 0, 1) else if begs d l = false then ([], 0, 8) else rd d (l.drop (opL d).length) false [] (opL d).length
def begL (d : Int) (l : List UInt8) : Bool := diaB d && begs d l
def checkL (l : List UInt8) : Nat := if 1024 < l.length then 3 else if l.all okB = false then 8 else 0
def errL (d : Int) (l : List UInt8) : Nat := if diaB d = false then 1 else checkL l
def printL (d : Int) (l : List UInt8) : List UInt8 := if errL d l = 0 then form d l else []

theorem opL_len (d : Int) : (opL d).length ≤ 2 := by unfold opL; split <;> simp
theorem clL_len (d : Int) : (clL d).length ≤ 2 := by unfold clL; split <;> simp
theorem rd_bd (d : Int) (n : Nat) : ∀ l sh acc u, acc.length ≤ 1024 → u + l.length = n → (rd d l sh acc u).1.length ≤ 1024 ∧ (rd d l sh acc u).2.1 ≤ n + 2 ∧ (rd d l sh acc u).2.2 ≤ 8 := by
  intro l
  induction l with
  | nil => intro sh acc u h _; cases sh <;> simp [rd]
  | cons c r ih =>
    intro sh acc u h hn
    simp only [List.length_cons] at hn
    have hc := clL_len d
    cases sh with
    | true =>
      simp only [rd]
      split
      · split
        · simp
        · exact ih _ _ _ (by simp; omega) (by omega)
      · simp
    | false =>
      simp only [rd]
      split
      · simp; omega
      · split
        · exact ih _ _ _ h (by omega)
        · split
          · simp
          · split
            · simp
            · exact ih _ _ _ (by simp; omega) (by omega)

theorem hp_cons (x c : UInt8) (xs r : List UInt8) : Lib.hasPrefix (c :: r) (x :: xs) = (x == c && Lib.hasPrefix r xs) := rfl
theorem hp_nil (r : List UInt8) : Lib.hasPrefix r [] = true := rfl
theorem clos0 (c : UInt8) (r : List UInt8) : clos 0 (c :: r) = (125 == c) := by simp [clos, hp_cons, hp_nil, clL]
theorem clos1 (c : UInt8) (r : List UInt8) : clos 1 (c :: r) = (42 == c && Lib.hasPrefix r [47]) := by simp [clos, hp_cons, clL]
theorem clos_nil (d : Int) : clos d [] = false := by unfold clos Lib.hasPrefix clL; split <;> rfl

/-- Behind a text's byte that isn't shielded no closing stands. -/
theorem open_byte (d : Int) (hd : Dia d) (c : UInt8) (r b : List UInt8) (h : shield d c r = false) : clos d (c :: (body d r ++ clL d ++ b)) = false ∧ (c == 92) = false := by
  have h2 : (c == 92) = false ∧ clos d (c :: r) = false := by simpa [shield] using h
  refine ⟨?_, h2.1⟩
  rcases hd with rfl | rfl
  · rw [clos0]; rw [clos0] at h2; exact h2.2
  · rw [clos1]; rw [clos1] at h2
    cases hc : (42 == c) with
    | false => rfl
    | true =>
      rw [hc] at h2
      cases r with
      | nil => simp [body, clL, hp_cons, hp_nil]
      | cons e t =>
        have h3 : (47 == e) = false := by have := h2.2; simpa [hp_cons, hp_nil] using this
        simp only [body, Bool.true_and]
        split
        · simp [hp_cons, hp_nil]
        · simp [hp_cons, hp_nil]; simpa using h3
theorem shut_byte (d : Int) (hd : Dia d) (c : UInt8) (r : List UInt8) (h : shield d c r = true) : (c == 92 || c == cl0 d) = true := by
  unfold shield at h
  rcases hd with rfl | rfl
  · rw [clos0] at h; simp [cl0] at *; rcases h with h | h <;> simp [h]
  · rw [clos1] at h; simp [cl0] at *; rcases h with h | h <;> simp [h]
theorem clos_92 (d : Int) (hd : Dia d) (l : List UInt8) : clos d (92 :: l) = false := by
  rcases hd with rfl | rfl
  · rw [clos0]; rfl
  · rw [clos1]; rfl
theorem clos_cl (d : Int) (b : List UInt8) : clos d (clL d ++ b) = true := by unfold clos Lib.hasPrefix clL; split <;> simp
theorem clL_cons (d : Int) : ∃ r, clL d = cl0 d :: r := by unfold clL cl0; split <;> exact ⟨_, rfl⟩

theorem back (d : Int) (hd : Dia d) (b : List UInt8) : ∀ l acc u, l.all okB = true → acc.length + l.length ≤ 1024 →
    rd d (body d l ++ clL d ++ b) false acc u = (acc ++ l, u + (body d l).length + (clL d).length, 0) := by
  intro l
  induction l with
  | nil =>
    intro acc u _ _
    obtain ⟨r, hr⟩ := clL_cons d
    have hc := clos_cl d b
    simp only [body, List.nil_append, List.length_nil, List.append_nil, Nat.add_zero]
    rw [hr] at hc ⊢
    rw [List.cons_append] at hc ⊢
    rw [rd, if_pos hc, hr]
  | cons c r ih =>
    intro acc u hok hl
    simp only [List.all_cons, Bool.and_eq_true] at hok
    simp only [List.length_cons] at hl
    have hn : acc.length ≠ 1024 := by omega
    have hih := ih (acc ++ [c]) (u + (if shield d c r then 2 else 1)) hok.2 (by simp; omega)
    simp only [body]
    cases hs : shield d c r with
    | true =>
      rw [hs] at hih
      simp only [if_true, List.cons_append, List.nil_append, List.append_assoc]
      rw [rd, if_neg (by rw [clos_92 d hd]; simp), if_pos (by rfl), rd, if_pos (shut_byte d hd c r hs), if_neg hn]
      simp only [if_true] at hih
      rw [← List.append_assoc, show u + 1 + 1 = u + 2 from rfl, hih]
      simp; omega
    | false =>
      rw [hs] at hih
      obtain ⟨h1, h2⟩ := open_byte d hd c r b hs
      simp only [Bool.false_eq_true, if_false, List.cons_append, List.nil_append]
      rw [rd, if_neg (by rw [h1]; simp), if_neg (by rw [h2]; simp), if_neg (by rw [hok.1]; simp), if_neg hn]
      simp only [Bool.false_eq_true, if_false] at hih
      rw [hih]
      simp; omega

theorem begs_op (d : Int) (l : List UInt8) : begs d (opL d ++ l) = true := by unfold begs Lib.hasPrefix opL; split <;> simp
theorem check_zero {l : List UInt8} (h : checkL l = 0) : l.length ≤ 1024 ∧ l.all okB = true := by
  unfold checkL at h
  split at h
  · omega
  · split at h
    · omega
    · rename_i h1 h2; exact ⟨by omega, by simpa using h2⟩
theorem read_form (d : Int) (hd : Dia d) (l b : List UInt8) (h : checkL l = 0) : readL d (form d l ++ b) = (l, (form d l).length, 0) := by
  obtain ⟨h1, h2⟩ := check_zero h
  unfold readL form
  rw [hd.b, List.append_assoc, List.append_assoc, begs_op]
  simp only [Bool.true_eq_false, if_false]
  rw [List.drop_left, ← List.append_assoc, back d hd b l [] _ h2 (by simpa using h1)]
  simp; omega
theorem beg_form (d : Int) (hd : Dia d) (l : List UInt8) : begL d (form d l) = true := by
  unfold begL form; rw [hd.b, List.append_assoc, begs_op]; rfl
/-- Forms of unlike texts: none is the beginning of another one. -/
theorem form_apart (d : Int) (hd : Dia d) (a b r : List UInt8) (ha : checkL a = 0) (hb : checkL b = 0) (h : form d b = form d a ++ r) : a = b := by
  have h1 := read_form d hd a r ha
  have h2 := read_form d hd b [] hb
  rw [List.append_nil, h, h1] at h2
  exact (Prod.mk.inj h2).1
theorem body_len (d : Int) : ∀ l, l.length ≤ (body d l).length ∧ (body d l).length ≤ 2 * l.length := by
  intro l
  induction l with
  | nil => simp [body]
  | cons c r ih => simp only [body, List.length_append, List.length_cons]; split <;> simp <;> omega
theorem form_len (d : Int) (hd : Dia d) (l : List UInt8) : l.length + 2 * (1 + d.toNat) ≤ (form d l).length ∧ (form d l).length ≤ 2 * l.length + 2 * (1 + d.toNat) := by
  have := body_len d l
  rcases hd with rfl | rfl <;> simp [form, opL, clL] <;> omega
theorem body_append (d : Int) (c : UInt8) (r : List UInt8) : body d (c :: r) = (if shield d c r then [92, c] else [c]) ++ body d r := rfl
end Go.Proofs.YtciijpahjjoppaaGreat.N2
end
section
namespace Go.Proofs.YtciijpahjjoppaaGreat.N2
open Go.RowKit

theorem ret_bool {a b : Bool} (h : a = b) : Ending.returned (.bool a) = .returned (.bool b) := by rw [h]
theorem brackets_0 (w : World) :
    Calls Tryz.prog 148 #[.int .i64 0] w fun e w' => e = .returned (.tuple #[.agg #[.string (opA 0), .string (clA 0)], .bool true]) ∧ Below w.heap.size w w' := by
  rw [opA_0, clA_0]
  go_enter Tryz.func148, Tryz.ntmps148
  go_wp2
  exact bodyPost_ret (v := .tuple #[.agg #[.string ⟨#[123]⟩, .string ⟨#[125]⟩], .bool true]) (by simp [results, Tryz.results148, go_sem]) rfl ⟨rfl, (Below.refl _ _).alloc (Nat.le_refl _) _⟩
theorem brackets_1 (w : World) :
    Calls Tryz.prog 148 #[.int .i64 1] w fun e w' => e = .returned (.tuple #[.agg #[.string (opA 1), .string (clA 1)], .bool true]) ∧ Below w.heap.size w w' := by
  rw [opA_1, clA_1]
  go_enter Tryz.func148, Tryz.ntmps148
  go_wp2
  exact bodyPost_ret (v := .tuple #[.agg #[.string ⟨#[47, 42]⟩, .string ⟨#[42, 47]⟩], .bool true]) (by simp [results, Tryz.results148, go_sem]) rfl ⟨rfl, (Below.refl _ _).alloc (Nat.le_refl _) _⟩
theorem brackets_yes (d : Int) (hd : Dia d) (w : World) :
    Calls Tryz.prog 148 #[.int .i64 d] w fun e w' => e = .returned (.tuple #[.agg #[.string (opA d), .string (clA d)], .bool true]) ∧ Below w.heap.size w w' := by
  rcases hd with rfl | rfl
  · exact brackets_0 w
  · exact brackets_1 w
theorem brackets_no (d : Int) (hd : ¬ Dia d) (w : World) :
    Calls Tryz.prog 148 #[.int .i64 d] w fun e w' => e = .returned (.tuple #[.agg #[.string ⟨#[]⟩, .string ⟨#[]⟩], .bool false]) ∧ Below w.heap.size w w' := by
  have h0 : (d == 0) = false := by unfold Dia at hd; simp; omega
  have h1 : (d == 1) = false := by unfold Dia at hd; simp; omega
  clear hd
  go_enter Tryz.func148, Tryz.ntmps148
  go_wp2
  exact bodyPost_ret (v := .tuple #[.agg #[.string ⟨#[]⟩, .string ⟨#[]⟩], .bool false]) (by simp [results, Tryz.results148, go_sem]) rfl ⟨rfl, (Below.refl _ _).alloc (Nat.le_refl _) _⟩

theorem may_any (r : Int) (w : World) :
    Calls Tryz.prog 157 #[.int .i32 r] w fun e w' => e = .returned (.bool (okZ r)) ∧ w = w' := by
  go_enter Tryz.func157, Tryz.ntmps157
  go_wp2
  all_goals go_ret
  all_goals refine ⟨ret_bool ?_, rfl⟩
  all_goals unfold okZ
  all_goals simp_all
  omega
theorem right_any (c : Int) (w : World) :
    Calls Tryz.prog 118 #[.int .u8 c] w fun e w' => e = .returned (.bool (okZ c)) ∧ w = w' := by
  go_enter Tryz.func118, Tryz.ntmps118
  go_wp2
  all_goals go_ret
  all_goals refine ⟨ret_bool ?_, rfl⟩
  all_goals unfold okZ
  all_goals simp_all
  omega

theorem all_take (s : ByteArray) (k : Nat) (h : k < s.size) : (s.data.toList.take (k + 1)).all okB = ((s.data.toList.take k).all okB && okB (bt s k)) := by
  rw [take_bt s k h, List.all_append]; simp
theorem all_bad (s : ByteArray) (k : Nat) (h : k < s.size) (hc : okB (bt s k) = false) : s.data.toList.all okB = false := by
  rw [← List.take_append_drop k s.data.toList, List.all_append, drop_bt s k h, List.all_cons, hc]; simp
theorem all_end (s : ByteArray) (k : Nat) (h : ¬ k < s.size) (ha : (s.data.toList.take k).all okB = true) : s.data.toList.all okB = true := by
  rwa [List.take_of_length_le (by simp; omega)] at ha
theorem high_bad (n : Nat) (h : 128 ≤ n) : okZ n = false := by
  unfold okZ; simp; omega
set_option maxHeartbeats 400000 in
theorem check_any (s : ByteArray) (w : World) (hs : s.size ≤ maxLen) :
    Calls Tryz.prog 78 #[.string s] w fun e w' => e = .returned (.int .i64 (checkL s.data.toList : Nat)) ∧ w = w' := by
  unfold maxLen at hs
  have hl := len_size s
  by_cases hb : 1024 < s.size
  · have e : checkL s.data.toList = 3 := by unfold checkL; rw [if_pos (by omega)]
    rw [e]
    clear hl e
    go_enter Tryz.func78, Tryz.ntmps78
    go_wp2
    go_ret
    exact ⟨rfl, rfl⟩
  · have E : Hid (∀ b, s.data.toList.all okB = b → checkL s.data.toList = if b = false then 8 else 0) := Lib.hid (by
      intro b hb2; unfold checkL; rw [if_neg (by omega), hb2])
    clear hl
    go_enter Tryz.func78, Tryz.ntmps78
    go_wp2
    go_loop [3] (fun i => ∃ k : Nat, k ≤ s.size ∧ i = .int .i64 k ∧ (s.data.toList.take k).all okB = true) (fun i => s.size - (intOf i).toNat)
    case atStart => exact ⟨0, Nat.zero_le _, rfl, rfl⟩
    case round =>
      obtain ⟨k, hk, rfl, ha⟩ := hrel
      have A := Lib.hid ha
      clear ha
      by_cases hlt : k < s.size
      · have HB := Lib.hid (bt_eq s k hlt)
        cases hc : okB (bt s k) with
        | true =>
          have H := Lib.hid hc
          clear hc
          go_wp2_with fail
          refine (right_any _ _).mono ?_
          rw [HB.out, show okZ ((bt s k).toNat : Int) = true from H.out]
          rintro e w' ⟨rfl, rfl⟩
          go_wp2
          go_round
          case rel => exact ⟨k + 1, by omega, by go_num, by rw [all_take s k hlt, A.out, H.out]; rfl⟩
          case measure => simp [intOf]; omega
        | false =>
          have H := Lib.hid hc
          clear hc
          go_wp2_with fail
          refine (right_any _ _).mono ?_
          rw [HB.out, show okZ ((bt s k).toNat : Int) = false from H.out]
          rintro e w' ⟨rfl, rfl⟩
          go_wp2
          go_ret
          rw [E.out false (all_bad s k hlt H.out)]
          exact ⟨rfl, rfl⟩
      · go_wp2
        go_ret
        rw [E.out true (all_end s k hlt A.out)]
        exact ⟨rfl, rfl⟩
end Go.Proofs.YtciijpahjjoppaaGreat.N2
end
section
namespace Go.Proofs.YtciijpahjjoppaaGreat.N2
open Go.RowKit

set_option maxHeartbeats 400000 in
theorem isText_any (s : ByteArray) (w : World) :
    Calls Tryz.prog 149 #[.string s] w fun e w' => e = .returned (.bool (s.data.toList.all okB)) ∧ Below w.heap.size w w' := by
  go_enter Tryz.func149, Tryz.ntmps149
  go_wp2
  go_loopw [] (fun wr => ∃ pos : Nat, wr.heap[w.heap.size]? = some (.stringIter s pos) ∧ Below w.heap.size w wr ∧ (s.data.toList.take pos).all okB = true) (fun wr => s.size - wr.iterPos w.heap.size)
  case atStart => exact ⟨0, World.iter_heap w s 0, (Below.refl _ w).alloc (Nat.le_refl _) _, rfl⟩
  case round =>
    obtain ⟨pos, hit, hbw, ha⟩ := hrel
    have IT := Lib.hid hit
    have BW := Lib.hid hbw
    have A := Lib.hid ha
    clear hit hbw ha
    by_cases hp : pos < s.size
    · by_cases hi : (bt s pos).toNat < 128
      · have hnx : ∀ ty, (Instr.next (.pointer (some ⟨w.heap.size, 0, none⟩)) true ty).run Tryz.prog wr = .ok (.tuple #[.bool true, .int .i64 pos, .int .i32 (bt s pos).toNat]) (wr.iterAt w.heap.size s (pos + 1)) := by
          intro ty
          have := Lib.run_next_ascii_at (P := Tryz.prog) wr w.heap.size s pos ty IT.out hp (by rw [bt_eq s pos hp]; exact hi)
          rw [bt_eq s pos hp] at this
          exact this
        cases hc : okB (bt s pos) with
        | true =>
          have H := Lib.hid hc
          clear hc
          go_wp2_with fail
          refine (may_any _ _).mono ?_
          rw [show okZ ((bt s pos).toNat : Int) = true from H.out]
          rintro e w' ⟨rfl, rfl⟩
          go_wp2
          go_roundw
          case rel => exact ⟨pos + 1, Lib.iterAt_heap wr w.heap.size s pos (pos + 1) IT.out, Lib.below_iterAt BW.out (Nat.le_refl _) s (pos + 1), by rw [all_take s pos hp, A.out, H.out]; rfl⟩
          case measure =>
            simp only [World.iterPos, Lib.iterAt_heap wr w.heap.size s pos (pos + 1) IT.out, IT.out]
            omega
        | false =>
          have H := Lib.hid hc
          clear hc
          go_wp2_with fail
          refine (may_any _ _).mono ?_
          rw [show okZ ((bt s pos).toNat : Int) = false from H.out]
          rintro e w' ⟨rfl, rfl⟩
          go_wp2
          go_ret
          rw [all_bad s pos hp H.out]
          exact ⟨rfl, Lib.below_iterAt BW.out (Nat.le_refl _) s (pos + 1)⟩
      · have hnx : ∀ ty, (Instr.next (.pointer (some ⟨w.heap.size, 0, none⟩)) true ty).run Tryz.prog wr = _ := fun ty => Lib.run_next_any_at wr w.heap.size s pos ty IT.out hp
        have hh := (decode_high s pos hp (by rw [bt_eq s pos hp]; omega)).1
        go_wp2_with fail
        refine (may_any _ _).mono ?_
        rw [high_bad _ hh]
        rintro e w' ⟨rfl, rfl⟩
        go_wp2
        go_ret
        rw [all_bad s pos hp (high_bad _ (by omega))]
        exact ⟨rfl, Lib.below_iterAt BW.out (Nat.le_refl _) s _⟩
    · have hnx : ∀ ty, (Instr.next (.pointer (some ⟨w.heap.size, 0, none⟩)) true ty).run Tryz.prog wr = _ := fun ty => Lib.run_next_end_at wr w.heap.size s pos ty IT.out hp
      go_wp2
      go_ret
      rw [all_end s pos hp A.out]
      exact ⟨rfl, BW.out⟩

end Go.Proofs.YtciijpahjjoppaaGreat.N2
end
section
namespace Go.Proofs.YtciijpahjjoppaaGreat.N2
open Go.RowKit

theorem heap_new (w : World) (o : Obj) : (w.alloc o).heap[w.heap.size]? = some o := by
  show (w.heap.push o)[w.heap.size]? = _
  simp
theorem cell_new (w : World) (c : Array Value) (t : TypeId) (o : Nat) : (w.alloc (.cells c t)).cell? ⟨w.heap.size, o, none⟩ = c[o]? := by
  unfold World.cell?
  rw [heap_new]
  rfl
theorem ext_drop (s : ByteArray) (k : Nat) : (s.extract k s.size).data.toList = s.data.toList.drop k := by
  simp only [ByteArray.data_extract, Array.toList_extract, List.extract_eq_take_drop]
  rw [List.take_of_length_le (by simp)]
theorem has_yes (s : ByteArray) (k : Nat) (d : Int) (w : World) (h : clos d (s.data.toList.drop k) = true) :
    Calls Tryz.prog 150 #[.string (s.extract k s.size), .string (clA d)] w fun e w' => e = .returned (.bool true) ∧ w' = w := by
  have := Tryz.strings_HasPrefix (s.extract k s.size) (clA d) w
  rw [ext_drop, clA_l, show Lib.hasPrefix (s.data.toList.drop k) (clL d) = true from h] at this
  exact this
theorem has_no (s : ByteArray) (k : Nat) (d : Int) (w : World) (h : clos d (s.data.toList.drop k) = false) :
    Calls Tryz.prog 150 #[.string (s.extract k s.size), .string (clA d)] w fun e w' => e = .returned (.bool false) ∧ w' = w := by
  have := Tryz.strings_HasPrefix (s.extract k s.size) (clA d) w
  rw [ext_drop, clA_l, show Lib.hasPrefix (s.data.toList.drop k) (clL d) = false from h] at this
  exact this

/-- In wr the block B is a builder that holds acc, the block k goes through s and stands at pos; below B all is as in w0. -/
structure Bld (w0 : World) (B k : Nat) (s : ByteArray) (pos : Nat) (acc : List UInt8) (wr : World) : Prop where
  bld : Lib.IsBuilderF 186 5 B B (Lib.byteCells acc) wr
  it : wr.heap[k]? = some (.stringIter s pos)
  bel : Below B w0 wr
  lt : B < k
theorem Bld.size {w0 wr : World} {B k pos : Nat} {s : ByteArray} {acc : List UInt8} (h : Bld w0 B k s pos acc wr) : B ≤ wr.heap.size := by
  have := (Array.getElem?_eq_some_iff.1 h.it).1
  have := h.lt
  omega
theorem Bld.next {w0 wr : World} {B k pos : Nat} {s : ByteArray} {acc : List UInt8} (h : Bld w0 B k s pos acc wr) (p : Nat) : Bld w0 B k s p acc (wr.iterAt k s p) :=
  ⟨h.bld.iterAt h.it p, Lib.iterAt_heap wr k s pos p h.it, Lib.below_iterAt h.bel (Nat.le_of_lt h.lt) s p, h.lt⟩
theorem Bld.drewN {w0 wr : World} {B k pos : Nat} {s : ByteArray} {acc : List UInt8} (h : Bld w0 B k s pos acc wr) (n : Nat) : Bld w0 B k s pos acc (wr.drewN n) :=
  ⟨h.bld, h.it, ⟨h.bel.os, h.bel.tape, h.bel.output, h.bel.size, h.bel.block⟩, h.lt⟩
theorem Bld.cell {w0 wr : World} {B k pos : Nat} {s : ByteArray} {acc : List UInt8} (h : Bld w0 B k s pos acc wr) (b o : Nat) (hb : b < B) : wr.cell? ⟨b, o, none⟩ = w0.cell? ⟨b, o, none⟩ :=
  h.bel.cell (p := ⟨b, o, none⟩) hb
theorem Bld.pos {w0 wr : World} {B k pos : Nat} {s : ByteArray} {acc : List UInt8} (h : Bld w0 B k s pos acc wr) : wr.iterPos k = pos := by
  simp only [World.iterPos, h.it]
theorem Bld.nextLow {w0 wr : World} {B k pos : Nat} {s : ByteArray} {acc : List UInt8} (h : Bld w0 B k s pos acc wr) (hp : pos < s.size) (hi : (bt s pos).toNat < 128) (ty : TypeId) :
    (Instr.next (.pointer (some ⟨k, 0, none⟩)) true ty).run Tryz.prog wr = .ok (.tuple #[.bool true, .int .i64 pos, .int .i32 (bt s pos).toNat]) (wr.iterAt k s (pos + 1)) := by
  have := Lib.run_next_ascii_at (P := Tryz.prog) wr k s pos ty h.it hp (by rw [bt_eq s pos hp]; exact hi)
  rw [bt_eq s pos hp] at this
  exact this
theorem Bld.writeByte {w0 wr : World} {B k pos : Nat} {s : ByteArray} {acc : List UInt8} (h : Bld w0 B k s pos acc wr) (c : Nat) (hc : c < 256) (hl : acc.length ≤ 1000000) :
    Calls Tryz.prog 151 #[.pointer (some ⟨B, 0, none⟩), .int .u8 (c : Int)] wr fun e w' => e = .returned .nilIface ∧ Bld w0 B k s pos (acc ++ [c.toUInt8]) w' := by
  refine (Tryz.Builder_WriteByte_k B B _ c wr h.bld (by rw [Lib.byteCells_length]; omega) h.size).mono ?_
  rintro e w' ⟨rfl, h1, b1, k1⟩
  refine ⟨rfl, ?_, k1.iter h.it (Nat.ne_of_gt h.lt), h.bel.trans b1, h.lt⟩
  rw [Lib.byteCells_append, show Lib.byteCells [c.toUInt8] = [.int .u8 (c : Int)] by simp [Lib.byteCells]; omega]
  exact Or.inr h1
theorem Bld.byte92 {w0 wr : World} {B k pos : Nat} {s : ByteArray} {acc : List UInt8} (h : Bld w0 B k s pos acc wr) (hl : acc.length ≤ 1000000) :
    Calls Tryz.prog 151 #[.pointer (some ⟨B, 0, none⟩), .int .u8 92] wr fun e w' => e = .returned .nilIface ∧ Bld w0 B k s pos (acc ++ [92]) w' := h.writeByte 92 (by decide) hl
theorem rune_low (c : UInt8) (hc : c.toNat < 128) : Lib.runeCells (c.toNat : Int) = Lib.byteCells [c] := by
  unfold Lib.runeCells Lib.byteCells
  rw [Lib.encodeRuneZ_one (by omega) (by omega)]
  rfl
theorem Bld.writeRune {w0 wr : World} {B k pos : Nat} {s : ByteArray} {acc : List UInt8} (h : Bld w0 B k s pos acc wr) (c : UInt8) (hc : c.toNat < 128) (hl : acc.length ≤ 1000000) :
    Calls Tryz.prog 152 #[.pointer (some ⟨B, 0, none⟩), .int .i32 (c.toNat : Int)] wr fun e w' => e = .returned (.tuple #[.int .i64 1, .nilIface]) ∧ Bld w0 B k s pos (acc ++ [c]) w' := by
  refine (Tryz.Builder_WriteRune_k B B _ c.toNat (by omega) (by omega) wr h.bld (by rw [Lib.byteCells_length]; omega) h.size).mono ?_
  rw [rune_low c hc]
  rintro e w' ⟨rfl, h1, b1, k1⟩
  refine ⟨rfl, ?_, k1.iter h.it (Nat.ne_of_gt h.lt), h.bel.trans b1, h.lt⟩
  rw [Lib.byteCells_append]
  exact Or.inr h1
theorem Bld.writeString {w0 wr : World} {B k pos : Nat} {s : ByteArray} {acc : List UInt8} (h : Bld w0 B k s pos acc wr) (t : ByteArray) (ht : t.size ≤ 1000000) (hl : acc.length ≤ 1000000) :
    Calls Tryz.prog 143 #[.pointer (some ⟨B, 0, none⟩), .string t] wr fun e w' => e = .returned (.tuple #[.int .i64 t.size, .nilIface]) ∧ Bld w0 B k s pos (acc ++ t.data.toList) w' := by
  refine (Tryz.Builder_WriteString_k B B _ t wr h.bld (by rw [Lib.byteCells_length]; omega) h.size).mono ?_
  rintro e w' ⟨rfl, h1, b1, k1⟩
  refine ⟨rfl, ?_, k1.iter h.it (Nat.ne_of_gt h.lt), h.bel.trans b1, h.lt⟩
  rw [Lib.byteCells_append]
  exact Or.inr h1
theorem Bld.string {w0 wr : World} {B k pos : Nat} {s : ByteArray} {acc : List UInt8} (h : Bld w0 B k s pos acc wr) :
    Calls Tryz.prog 144 #[.pointer (some ⟨B, 0, none⟩)] wr fun e w' => e = .returned (.string ⟨acc.toArray⟩) ∧ Bld w0 B k s pos acc w' := by
  refine (Tryz.Builder_String_any_k B B acc wr h.bld h.size).mono ?_
  rintro e w' ⟨rfl, h1, b1, k1⟩
  exact ⟨rfl, h1, k1.iter h.it (Nat.ne_of_gt h.lt), h.bel.trans b1, h.lt⟩
/-- A new builder, written once, and then an iterator. -/
theorem Bld.begin {w0 w1 : World} {s : ByteArray} {acc : List UInt8} (h : Lib.IsBuilderF 186 5 w0.heap.size w0.heap.size (Lib.byteCells acc) w1) (hb : Below w0.heap.size w0 w1) (hz : w0.heap.size < w1.heap.size) :
    Bld w0 w0.heap.size w1.heap.size s 0 acc (w1.iter s 0) :=
  ⟨h.alloc _, World.iter_heap w1 s 0, hb.alloc (Nat.le_of_lt hz) _, hz⟩
end Go.Proofs.YtciijpahjjoppaaGreat.N2
end
section
namespace Go.Proofs.YtciijpahjjoppaaGreat.N2
open Go.RowKit

theorem drop_suc (s : ByteArray) (k : Nat) (d : Int) (h : k < s.size) : body d (s.data.toList.drop k) = (if shield d (bt s k) (s.data.toList.drop (k + 1)) then [92, bt s k] else [bt s k]) ++ body d (s.data.toList.drop (k + 1)) := by
  rw [drop_bt s k h, body_append]
theorem ok_at (s : ByteArray) (k : Nat) (h : k < s.size) (ha : s.data.toList.all okB = true) : okB (bt s k) = true := by
  cases hc : okB (bt s k) with
  | true => rfl
  | false => rw [all_bad s k h hc] at ha; cases ha
theorem ok_low (c : UInt8) (h : okB c = true) : c.toNat < 128 := by
  rcases Nat.lt_or_ge c.toNat 128 with g | g
  · exact g
  · rw [show okB c = okZ c.toNat from rfl, high_bad _ g] at h; cases h
set_option maxHeartbeats 400000 in
theorem print_no (d : Int) (s : ByteArray) (w : World) (hd : ¬ Dia d) :
    Calls Tryz.prog 135 #[.int .i64 d, .string s] w fun e w' => e = .returned (.tuple #[.string ⟨#[]⟩, .int .i64 1]) ∧ Below w.heap.size w w' := by
  go_enter Tryz.func135, Tryz.ntmps135
  go_wp2_with fail
  refine (brackets_no d hd _).mono ?_
  rintro e w1 ⟨rfl, b1⟩
  have B1 := Lib.hid b1
  clear b1
  go_wp2_with fail
  go_ret2
  exact ⟨rfl, B1.out.alloc B1.out.size _⟩
set_option maxHeartbeats 400000 in
theorem print_long (d : Int) (s : ByteArray) (w : World) (hd : Dia d) (hs : 1024 < s.size) :
    Calls Tryz.prog 135 #[.int .i64 d, .string s] w fun e w' => e = .returned (.tuple #[.string ⟨#[]⟩, .int .i64 3]) ∧ Below w.heap.size w w' := by
  go_enter Tryz.func135, Tryz.ntmps135
  go_wp2_with fail
  refine (brackets_yes d hd _).mono ?_
  rintro e w1 ⟨rfl, b1⟩
  have B1 := Lib.hid b1
  clear b1
  go_wp2_with fail
  go_ret2
  exact ⟨rfl, B1.out.alloc B1.out.size _⟩
set_option maxHeartbeats 400000 in
theorem print_bad (d : Int) (s : ByteArray) (w : World) (hd : Dia d) (hs : s.size ≤ 1024) (ha : s.data.toList.all okB = false) :
    Calls Tryz.prog 135 #[.int .i64 d, .string s] w fun e w' => e = .returned (.tuple #[.string ⟨#[]⟩, .int .i64 8]) ∧ Below w.heap.size w w' := by
  have A := Lib.hid ha
  clear ha
  go_enter Tryz.func135, Tryz.ntmps135
  go_wp2_with fail
  refine (brackets_yes d hd _).mono ?_
  rintro e w1 ⟨rfl, b1⟩
  have B1 := Lib.hid b1
  clear b1
  go_wp2_with fail
  refine (isText_any s _).mono ?_
  rw [A.out]
  rintro e w2 ⟨rfl, b2⟩
  have B2 := Lib.hid ((B1.out.alloc B1.out.size _).trans (b2.mono (by have := B1.out.size; simp; omega)))
  clear b2
  go_wp2_with fail
  go_ret2
  exact ⟨rfl, B2.out⟩
set_option maxHeartbeats 800000 in
theorem print_ok (d : Int) (s : ByteArray) (w : World) (hd : Dia d) (hs : s.size ≤ 1024) (ha : s.data.toList.all okB = true) :
    Calls Tryz.prog 135 #[.int .i64 d, .string s] w fun e w' => e = .returned (.tuple #[.string ⟨(form d s.data.toList).toArray⟩, .int .i64 0]) ∧ Below w.heap.size w w' := by
  have A := Lib.hid ha
  clear ha
  go_enter Tryz.func135, Tryz.ntmps135
  go_wp2_with fail
  refine (brackets_yes d hd _).mono ?_
  rintro e w1 ⟨rfl, b1⟩
  have B1 := Lib.hid b1
  clear b1
  go_wp2_with fail
  refine (isText_any s _).mono ?_
  rw [A.out]
  rintro e w2 ⟨rfl, b2⟩
  have BB := Lib.hid ((B1.out.alloc B1.out.size (.cells #[.string (opA d), .string (clA d)] 195)).trans (b2.mono (by have := B1.out.size; simp; omega)))
  have hz : w1.heap.size < w2.heap.size := by have := b2.size; simp at this; omega
  have c0 : w2.cell? ⟨w1.heap.size, 0, none⟩ = some (.string (opA d)) := by
    rw [b2.cell (p := ⟨w1.heap.size, 0, none⟩) (by simp), cell_new]; rfl
  have c1 : w2.cell? ⟨w1.heap.size, 1, none⟩ = some (.string (clA d)) := by
    rw [b2.cell (p := ⟨w1.heap.size, 1, none⟩) (by simp), cell_new]; rfl
  clear b2
  go_wp2_with fail
  refine (Tryz.Builder_WriteString_k w2.heap.size w2.heap.size [] (opA d) _ (Lib.IsBuilderF.of (Lib.fresh_isBuilder 186 5 w2)) (by have := opL_len d; show 0 + (opL d).length ≤ _; omega) (by simp)).mono ?_
  rintro e w3 ⟨rfl, h3, b3, k3⟩
  have hz3 : w2.heap.size < w3.heap.size := by have := b3.size; simp at this; omega
  have B3 := Lib.hid (((Below.refl w2.heap.size w2).alloc (Nat.le_refl _) (.cells #[.pointer none, .slice none 0 0] 186)).trans b3)
  have ST := Lib.hid (Bld.begin (s := s) (acc := opL d) (Or.inr h3) B3.out hz3)
  clear h3 b3 k3
  go_wp2_with fail
  go_loopw [] (fun wr => ∃ (pos : Nat) (acc : List UInt8), Bld w2 w2.heap.size w3.heap.size s pos acc wr ∧ acc ++ body d (s.data.toList.drop pos) = opL d ++ body d s.data.toList ∧ acc.length ≤ 2 + 2 * pos ∧ pos ≤ s.size) (fun wr => s.size - wr.iterPos w3.heap.size)
  case atStart => exact ⟨0, opL d, ST.out, rfl, opL_len d, Nat.zero_le _⟩
  case round =>
    obtain ⟨pos, acc, hst, hacc, hal, hps⟩ := hrel
    have S := Lib.hid hst
    have AC := Lib.hid hacc
    clear hst hacc ST
    by_cases hp : pos < s.size
    · have hok := ok_at s pos hp A.out
      have hlow := ok_low _ hok
      have hnx := S.out.nextLow hp hlow
      have S1 := Lib.hid (S.out.next (pos + 1))
      have hc1 : (wr.iterAt w3.heap.size s (pos + 1)).cell? ⟨w1.heap.size, 1, none⟩ = some (.string (clA d)) := by rw [S1.out.cell _ _ hz]; exact c1
      have DS := Lib.hid (drop_suc s pos d hp)
      clear hok
      cases hsh : shield d (bt s pos) (s.data.toList.drop (pos + 1)) with
      | true =>
        have SH := Lib.hid hsh
        clear hsh
        have N : Hid (∀ a, a = acc ++ [92] ++ [bt s pos] → a ++ body d (s.data.toList.drop (pos + 1)) = opL d ++ body d s.data.toList ∧ a.length ≤ 2 + 2 * (pos + 1)) := Lib.hid (by
          rintro a rfl
          refine ⟨?_, by simp; omega⟩
          rw [← AC.out, DS.out, SH.out]
          simp)
        by_cases h92 : (bt s pos).toNat = 92
        · have hq : (((bt s pos).toNat : Int) == 92) = true := by simp; omega
          clear h92
          go_wp2_with fail
          go_quiet (fail)
          go_wp2_with fail
          refine ((S1.out.drewN _).byte92 (by omega)).mono ?_
          rintro e w4 ⟨rfl, s4⟩
          have S4 := Lib.hid s4
          clear s4
          go_wp2_with fail
          refine (S4.out.writeRune (bt s pos) hlow (by simp; omega)).mono ?_
          rintro e w5 ⟨rfl, s5⟩
          have S5 := Lib.hid s5
          clear s5
          go_wp2_with fail
          go_roundw
          case rel => exact ⟨pos + 1, _, S5.out, (N.out _ rfl).1, (N.out _ rfl).2, hp⟩
          case measure => rw [S5.out.pos, S.out.pos]; omega
        · have hq : (((bt s pos).toNat : Int) == 92) = false := by simp; omega
          have CL : Hid (clos d (s.data.toList.drop pos) = true) := Lib.hid (by
            have h := SH.out
            unfold shield at h
            rw [drop_bt s pos hp]
            have : (bt s pos == 92) = false := by simp; intro h; apply h92; rw [h]; rfl
            rw [this] at h
            simpa using h)
          clear h92
          go_wp2_with fail
          go_quiet ((go_at_call 150; exact Calls.quiet_of_same (has_yes s pos d _ CL.out)))
          go_wp2_with fail
          refine ((S1.out.drewN _).byte92 (by omega)).mono ?_
          rintro e w4 ⟨rfl, s4⟩
          have S4 := Lib.hid s4
          clear s4
          go_wp2_with fail
          refine (S4.out.writeRune (bt s pos) hlow (by simp; omega)).mono ?_
          rintro e w5 ⟨rfl, s5⟩
          have S5 := Lib.hid s5
          clear s5
          go_wp2_with fail
          go_roundw
          case rel => exact ⟨pos + 1, _, S5.out, (N.out _ rfl).1, (N.out _ rfl).2, hp⟩
          case measure => rw [S5.out.pos, S.out.pos]; omega
      | false =>
        have SH := Lib.hid hsh
        clear hsh
        have N : Hid (∀ a, a = acc ++ [bt s pos] → a ++ body d (s.data.toList.drop (pos + 1)) = opL d ++ body d s.data.toList ∧ a.length ≤ 2 + 2 * (pos + 1)) := Lib.hid (by
          rintro a rfl
          refine ⟨?_, by simp; omega⟩
          rw [← AC.out, DS.out, SH.out]
          simp)
        have h2 : (bt s pos == 92) = false ∧ clos d (s.data.toList.drop pos) = false := by
          have h := SH.out
          unfold shield at h
          rw [drop_bt s pos hp]
          simpa using h
        have hq : (((bt s pos).toNat : Int) == 92) = false := by
          have h := h2.1
          simp at h ⊢
          intro h3
          apply h
          apply UInt8.toNat_inj.1
          show _ = 92
          omega
        have CL := Lib.hid h2.2
        clear h2
        go_wp2_with fail
        go_quiet ((go_at_call 150; exact Calls.quiet_of_same (has_no s pos d _ CL.out)))
        go_wp2_with fail
        refine ((S1.out.drewN _).writeRune (bt s pos) hlow (by omega)).mono ?_
        rintro e w5 ⟨rfl, s5⟩
        have S5 := Lib.hid s5
        clear s5
        go_wp2_with fail
        go_roundw
        case rel => exact ⟨pos + 1, _, S5.out, (N.out _ rfl).1, (N.out _ rfl).2, hp⟩
        case measure => rw [S5.out.pos, S.out.pos]; omega
    · have hnx : ∀ ty, (Instr.next (.pointer (some ⟨w3.heap.size, 0, none⟩)) true ty).run Tryz.prog wr = _ := fun ty => Lib.run_next_end_at wr w3.heap.size s pos ty S.out.it hp
      have hc1 : wr.cell? ⟨w1.heap.size, 1, none⟩ = some (.string (clA d)) := by rw [S.out.cell _ _ hz]; exact c1
      have F : Hid (acc ++ clL d = form d s.data.toList) := Lib.hid (by
        have h := AC.out
        rw [drop_end s pos hp, body, List.append_nil] at h
        rw [h]
        rfl)
      go_wp2_with fail
      refine (S.out.writeString (clA d) (by have := clL_len d; show (clL d).length ≤ _; omega) (by omega)).mono ?_
      rintro e w4 ⟨rfl, s4⟩
      have S4 := Lib.hid s4
      clear s4
      go_wp2_with fail
      refine S4.out.string.mono ?_
      rintro e w5 ⟨rfl, s5⟩
      have S5 := Lib.hid s5
      clear s5
      go_wp2_with fail
      go_ret2
      refine ⟨?_, BB.out.trans (S5.out.bel.mono BB.out.size)⟩
      rw [← F.out]
      rfl
theorem print_any (d : Int) (s : ByteArray) (w : World) :
    Calls Tryz.prog 135 #[.int .i64 d, .string s] w fun e w' => e = .returned (.tuple #[.string ⟨(printL d s.data.toList).toArray⟩, .int .i64 (errL d s.data.toList : Nat)]) ∧ Below w.heap.size w w' := by
  have hl := len_size s
  by_cases hd : Dia d
  · by_cases hs : 1024 < s.size
    · have e : errL d s.data.toList = 3 := by unfold errL checkL; rw [hd.b, if_neg (by simp), if_pos (by omega)]
      unfold printL
      rw [e]
      exact print_long d s w hd hs
    · cases ha : s.data.toList.all okB with
      | true =>
        have e : errL d s.data.toList = 0 := by unfold errL checkL; rw [hd.b, if_neg (by simp), if_neg (by omega), ha]; rfl
        unfold printL
        rw [e]
        exact print_ok d s w hd (by omega) ha
      | false =>
        have e : errL d s.data.toList = 8 := by unfold errL checkL; rw [hd.b, if_neg (by simp), if_neg (by omega), ha]; rfl
        unfold printL
        rw [e]
        exact print_bad d s w hd (by omega) ha
  · have e : errL d s.data.toList = 1 := by unfold errL; rw [not_dia hd]; rfl
    unfold printL
    rw [e]
    exact print_no d s w hd
end Go.Proofs.YtciijpahjjoppaaGreat.N2
end
section
namespace Go.Proofs.YtciijpahjjoppaaGreat
open Go.RowKit Go.Deep Go.Maps

def okNote (s : ByteArray) : Bool := N2.checkL s.data.toList == 0
def okT : List D → Bool
  | [.str s] => okNote s
  | _ => false
def okNs (l : List (List D)) : Bool := okAll l okT
def okType (d kd sz : Int) (tn : ByteArray) : Bool := if kd == 4 then (sz == 0) && okName d tn else wthn kd 1 3 && (wthn sz 0 64 && tn.toList.isEmpty)
def okF (d : Int) : List D → Bool
  | [.row m0, .row m1, .str nm, .int kd] => (okNs m0 && okNs m1) && (okName d nm && wthn kd 1 3)
  | _ => false
def okC (d : Int) : List D → Bool
  | [.row m0, .row m1, .str nm, .row fs, .row en] => (okNs m0 && okNs m1) && (okName d nm && (decide (0 < fs.length) && (okAll fs (okF d) && okNs en)))
  | _ => false
def okV (d : Int) : List D → Bool
  | [.row m0, .row m1, .str nm, .int kd, .int sz, .str tn] => (okNs m0 && okNs m1) && (okName d nm && okType d kd sz tn)
  | _ => false
def okMode (d kd sz md : Int) : Bool := if md == 0 then wthn kd 1 3 && (sz == 0) else if md == 1 then true else (md == 2) && (d == 1)
def okP (d : Int) : List D → Bool
  | [.str nm, .int kd, .int sz, .str tn, .int md] => okName d nm && (okType d kd sz tn && okMode d kd sz md)
  | _ => false

/-- Two boxes, made first, stay as they are. -/
structure Bx2 (w : World) (p q : Obj) (W : World) : Prop where
  a : W.heap[w.heap.size]? = some p
  b : W.heap[w.heap.size + 1]? = some q
  bel : Below w.heap.size w W
theorem Bx2.start (w : World) (p q : Obj) : Bx2 w p q ((w.alloc p).alloc q) :=
  ⟨box_first w p q, box_second w p q, ((Below.refl w.heap.size w).alloc (Nat.le_refl _) p).alloc (by simp) q⟩
theorem Bx2.step {w : World} {p q : Obj} {W W' : World} (h : Bx2 w p q W) (b : Below W.heap.size W W') : Bx2 w p q W' :=
  ⟨(b.block _ (heap_lt h.a)).trans h.a, (b.block _ (heap_lt h.b)).trans h.b, h.bel.trans (b.mono h.bel.size)⟩
theorem Bx2.on {w0 w : World} {p q : Obj} {W : World} (h : Bx2 w p q W) (k : Below w0.heap.size w0 w) : Below w0.heap.size w0 W := k.trans (h.bel.mono k.size)
/-- One box. -/
structure Bx1 (w : World) (p : Obj) (W : World) : Prop where
  a : W.heap[w.heap.size]? = some p
  bel : Below w.heap.size w W
theorem Bx1.start (w : World) (p : Obj) : Bx1 w p (w.alloc p) := ⟨heap_new w p, (Below.refl w.heap.size w).alloc (Nat.le_refl _) p⟩
theorem Bx1.step {w : World} {p : Obj} {W W' : World} (h : Bx1 w p W) (b : Below W.heap.size W W') : Bx1 w p W' :=
  ⟨(b.block _ (heap_lt h.a)).trans h.a, h.bel.trans (b.mono h.bel.size)⟩
theorem Bx1.on {w0 w : World} {p : Obj} {W : World} (h : Bx1 w p W) (k : Below w0.heap.size w0 w) : Below w0.heap.size w0 W := k.trans (h.bel.mono k.size)
theorem below_same {w w' : World} (h : w = w') : Below w.heap.size w w' := by subst h; exact Below.refl _ _

set_option maxRecDepth 100000 in
theorem note_any (d ar : Int) (hd : d = 0 ∨ d = 1) (s : ByteArray) (w : World) :
    Calls Tryz.prog 104 #[.agg #[.int .i64 d, .int .i64 ar], .string s] w fun e w' => e = .returned (.bool (okNote s)) ∧ Below w.heap.size w w' := by
  have S0 := Lib.hid (Bx1.start w (.cells #[.int .i64 d, .int .i64 ar] 51))
  have HE := Lib.hid (show N2.errL d s.data.toList = N2.checkL s.data.toList by unfold N2.errL; rw [N2.Dia.b hd]; rfl)
  have HO := Lib.hid (show okNote s = (((N2.checkL s.data.toList : Nat) : Int) == 0) by unfold okNote; rw [Bool.eq_iff_iff]; simp)
  clear hd
  go_enter Tryz.func104, Tryz.ntmps104
  go_wp2_with fail
  refine (N2.print_any d s _).mono ?_
  rintro e w1 ⟨rfl, b1⟩
  have S1 := Lib.hid (S0.out.step b1)
  clear b1
  rw [HE.out]
  generalize N2.checkL s.data.toList = q at *
  generalize N2.printL d s.data.toList = pr at *
  cases hq : ((q : Int) == 0) with
  | true =>
    rw [hq] at HO
    go_wp2_with fail
    go_ret
    exact ⟨by rw [HO.out]; rfl, S1.out.bel⟩
  | false =>
    rw [hq] at HO
    go_wp2_with fail
    go_ret
    exact ⟨by rw [HO.out]; rfl, S1.out.bel⟩
theorem isScalar_any (n : Int) (w : World) : Calls Tryz.prog 136 #[.int .i64 n] w fun e w' => e = .returned (.bool (wthn n 1 3)) ∧ w = w' := by
  go_enter Tryz.func136, Tryz.ntmps136
  go_wp2_with fail
  refine (within_any n 1 3 _).mono ?_
  rintro e w1 ⟨rfl, rfl⟩
  generalize hr : wthn n 1 3 = r
  go_wp2_with fail
  go_ret
  exact ⟨by rw [hr]; rfl, rfl⟩
end Go.Proofs.YtciijpahjjoppaaGreat
end
section
namespace Go.Proofs.YtciijpahjjoppaaGreat
open Go.RowKit Go.Deep Go.Maps

set_option maxRecDepth 100000 in
set_option maxHeartbeats 2000000 in
theorem allT_any (w0 : World) (d ar : Int) (hd : d = 0 ∨ d = 1) (a : Option Addr) (len cap : Nat) (l : List (List D)) (hA : At w0 (.slice a len cap) (.row l)) (hs : ∀ x ∈ l, ShT x) (W : World) (hW : Below w0.heap.size w0 W) :
    Calls Tryz.prog 103 #[.slice a len cap, .func (.func 104) #[.agg #[.int .i64 d, .int .i64 ar]] #[]] W fun e W' => e = .returned (.bool (okNs l)) ∧ Below W.heap.size W W' := by
  have eg := enters_of Tryz.func104 (by kernel_rfl) rfl
  have HA := Lib.hid hA
  have HS := Lib.hid hs
  have HD := Lib.hid hd
  have HW := Lib.hid hW
  have hle := hA.len_le
  have HL := Lib.hid hA.len_eq.1
  clear hA hs hd hW
  by_cases hbig : 512 < len
  · have hd : decide ((512 : Int) < (len : Int)) = true := by simp; omega
    have HO := Lib.hid (okAll_long (f := okT) (show 512 < l.length by rw [HL.out]; exact hbig))
    go_enter Tryz.func103, Tryz.ntmps103
    go_wp2_with fail
    go_ret
    exact ⟨by unfold okNs; rw [HO.out]; rfl, Below.refl _ _⟩
  · have hd : decide ((512 : Int) < (len : Int)) = false := by simp; omega
    go_enter Tryz.func103, Tryz.ntmps103
    go_wp2_with fail
    go_loopw [12] (fun i wr => ∃ k : Nat, k ≤ len ∧ i = .int .i64 k ∧ (l.take k).all okT = true ∧ Below W.heap.size W wr) (fun i _ => len - (intOf i).toNat)
    case atStart => exact ⟨0, Nat.zero_le _, rfl, rfl, Below.refl _ _⟩
    case round =>
      obtain ⟨k, hk, rfl, ht, hb⟩ := hrel
      have HT := Lib.hid ht
      have HB := Lib.hid hb
      clear ht hb
      by_cases hlt : k < len
      · obtain ⟨b, o, vs, ds, rfl, hbl, hx, hv, hc⟩ := HA.out.elem hlt
        obtain ⟨s, hds, hvs, _⟩ := hv.openT (HS.out _ (List.mem_of_getElem? hx))
        subst hvs
        have hdl : ds.length = 1 := by rw [hds]; rfl
        rw [hdl] at hc
        have B0 := HW.out.trans (HB.out.mono HW.out.size)
        have c0 := (B0.cell (p := ⟨b, o + k * 1, none⟩) hbl).trans (hc 0 _ rfl)
        rw [Nat.mul_one] at c0
        have hbw : b < wr.heap.size := Nat.lt_of_lt_of_le hbl B0.size
        have HX := Lib.hid hx
        have HF := Lib.hid (show okT ds = okNote s by rw [hds]; rfl)
        clear hx hds hdl hc B0 hv
        go_wp2_with fail
        refine (note_any d ar HD.out s _).mono ?_
        rintro e w3 ⟨rfl, b3⟩
        have HB4 := Lib.hid (HB.out.trans (b3.mono HB.out.size))
        clear b3 c0
        cases hsm : okNote s with
        | true =>
          have HE := Lib.hid (all_take_succ HX.out HT.out (HF.out.trans hsm))
          clear hsm
          go_wp2_with fail
          go_roundw
          case rel => exact ⟨k + 1, by omega, by go_num, HE.out, HB4.out⟩
          case measure => simp [intOf]; omega
        | false =>
          have HE := Lib.hid (okAll_bad HX.out (HF.out.trans hsm))
          clear hsm
          go_wp2_with fail
          go_ret
          exact ⟨by unfold okNs; rw [HE.out]; rfl, HB4.out⟩
      · obtain rfl : k = len := by omega
        have HE := Lib.hid (okAll_good (l := l) (f := okT) (by rw [HL.out]; omega) (by rw [HL.out]; exact HT.out))
        go_wp2_with fail
        go_ret
        exact ⟨by unfold okNs; rw [HE.out]; rfl, HB.out⟩
/-- A row of rows of comments. -/
def AtNs (w0 : World) (v : Value) (m : List (List D)) : Prop := ∃ a cap, v = .slice a m.length cap ∧ At w0 (.slice a m.length cap) (.row m) ∧ ∀ x ∈ m, ShT x
set_option maxRecDepth 100000 in
set_option maxHeartbeats 2000000 in
theorem notes_any (w0 : World) (d ar : Int) (hd : d = 0 ∨ d = 1) (b T n : Nat) (vs : List Value) (ms : List (List (List D))) (hn : vs.length = n) (hm : ms.length = n) (hn8 : n ≤ 8) (hat : ∀ (j : Nat) (v : Value) (m : List (List D)), vs[j]? = some v → ms[j]? = some m → AtNs w0 v m) (W : World) (hW : Below w0.heap.size w0 W) (hb : W.heap[b]? = some (.cells ⟨vs⟩ T)) :
    Calls Tryz.prog 68 #[.agg #[.int .i64 d, .int .i64 ar], .slice (some ⟨b, 0, none⟩) n n] W fun e W' => e = .returned (.bool (ms.all okNs)) ∧ Below W.heap.size W W' := by
  have HA := Lib.hid hat
  have HV := Lib.hid hn
  have HM := Lib.hid hm
  have HD := Lib.hid hd
  have HW := Lib.hid hW
  have HB0 := Lib.hid hb
  have S0 := Lib.hid (Bx1.start W (.cells #[.int .i64 d, .int .i64 ar] 51))
  clear hat hn hm hd hW hb
  go_enter Tryz.func68, Tryz.ntmps68
  go_wp2_with fail
  go_loopw [9] (fun i wr => ∃ k : Nat, k ≤ n ∧ i = .int .i64 k ∧ Hid ((ms.take k).all okNs = true) ∧ Hid (Bx1 W (.cells #[.int .i64 d, .int .i64 ar] 51) wr)) (fun i _ => n - (intOf i).toNat)
  case atStart => exact ⟨0, Nat.zero_le _, rfl, Lib.hid rfl, S0⟩
  case round =>
    obtain ⟨k, hk, rfl, HT, SR⟩ := hrel
    by_cases hlt : k < n
    · have hv : vs[k]? = some (vs[k]'(by rw [HV.out]; exact hlt)) := List.getElem?_eq_getElem _
      have hmm : ms[k]? = some (ms[k]'(by rw [HM.out]; exact hlt)) := List.getElem?_eq_getElem _
      generalize vs[k]'(by rw [HV.out]; exact hlt) = v at hv
      generalize ms[k]'(by rw [HM.out]; exact hlt) = m at hmm
      obtain ⟨a, cap, rfl, hat, hsh⟩ := HA.out k v m hv hmm
      have hbW : b < W.heap.size := heap_lt HB0.out
      have hbw : b < wr.heap.size := Nat.lt_of_lt_of_le hbW SR.out.bel.size
      have c0 : wr.cell? ⟨b, k, none⟩ = some (.slice a m.length cap) := by
        rw [box_cells ((SR.out.bel.block _ hbW).trans HB0.out)]
        simpa using hv
      have cc := box_cells SR.out.a
      have HC := Lib.hid (allT_any w0 d ar HD.out a m.length cap m hat hsh wr (SR.out.on HW.out))
      have HX := Lib.hid hmm
      clear hv hmm hat hsh
      go_wp2_with fail
      refine HC.out.mono ?_
      rintro e w3 ⟨rfl, b3⟩
      have S3 := Lib.hid (SR.out.step b3)
      clear b3 c0 cc
      cases hr : okNs m with
      | true =>
        have HE := Lib.hid (show (ms.take (k + 1)).all okNs = true by rw [List.take_add_one, HX.out, List.all_append, HT.out]; simpa using hr)
        clear hr
        go_wp2_with fail
        go_roundw
        case rel => exact ⟨k + 1, by omega, by go_num, HE, S3⟩
        case measure => simp [intOf]; omega
      | false =>
        have HE := Lib.hid (show ms.all okNs = false by rw [List.all_eq_false]; exact ⟨m, List.mem_of_getElem? HX.out, by simp [hr]⟩)
        clear hr
        go_wp2_with fail
        go_ret
        exact ⟨by rw [HE.out]; rfl, S3.out.bel⟩
    · obtain rfl : k = n := by omega
      have HE := Lib.hid (show ms.all okNs = true by have := HT.out; rwa [← HM.out, List.take_length] at this)
      go_wp2_with fail
      go_ret
      exact ⟨by rw [HE.out]; rfl, SR.out.bel⟩
set_option maxRecDepth 100000 in
set_option maxHeartbeats 2000000 in
theorem marks_any (w0 : World) (d ar : Int) (hd : d = 0 ∨ d = 1) (m0 m1 : List (List D)) (m0a : Option Addr) (m0c : Nat) (m1a : Option Addr) (m1c : Nat) (h0 : At w0 (.slice m0a m0.length m0c) (.row m0)) (h1 : At w0 (.slice m1a m1.length m1c) (.row m1)) (s0 : ∀ x ∈ m0, ShT x) (s1 : ∀ x ∈ m1, ShT x) (W : World) (hW : Below w0.heap.size w0 W) :
    Calls Tryz.prog 105 #[.agg #[.int .i64 d, .int .i64 ar], .agg #[.slice m0a m0.length m0c, .slice m1a m1.length m1c]] W fun e W' => e = .returned (.bool (okNs m0 && okNs m1)) ∧ Below W.heap.size W W' := by
  have S0 := Lib.hid (Bx2.start W (.cells #[.int .i64 d, .int .i64 ar] 51) (.cells #[.slice m0a m0.length m0c, .slice m1a m1.length m1c] 59))
  have HO := Lib.hid (show ([m0, m1] : List (List (List D))).all okNs = (okNs m0 && okNs m1) by simp)
  have HW := Lib.hid hW
  have HC := Lib.hid (fun (b T : Nat) (W : World) (hW : Below w0.heap.size w0 W) (hb : W.heap[b]? = some (.cells ⟨[.slice m0a m0.length m0c, .slice m1a m1.length m1c]⟩ T)) => notes_any w0 d ar hd b T 2 [.slice m0a m0.length m0c, .slice m1a m1.length m1c] [m0, m1] rfl rfl (by omega) (fun j v m hv hm => by
    match j, hv, hm with
    | 0, hv, hm => simp at hv hm; subst hv hm; exact ⟨m0a, m0c, rfl, h0, s0⟩
    | 1, hv, hm => simp at hv hm; subst hv hm; exact ⟨m1a, m1c, rfl, h1, s1⟩) W hW hb)
  clear hW h0 h1 s0 s1
  have S3 := Lib.hid (S0.out.step ((Below.refl _ ((W.alloc (.cells #[.int .i64 d, .int .i64 ar] 51)).alloc (.cells #[.slice m0a m0.length m0c, .slice m1a m1.length m1c] 59))).alloc (Nat.le_refl _) (.cells #[.slice m0a m0.length m0c, .slice m1a m1.length m1c] 29)))
  have K3 := Lib.hid (show (((W.alloc (.cells #[.int .i64 d, .int .i64 ar] 51)).alloc (.cells #[.slice m0a m0.length m0c, .slice m1a m1.length m1c] 59)).alloc (.cells #[.slice m0a m0.length m0c, .slice m1a m1.length m1c] 29)).heap[W.heap.size + 1 + 1]? = some (.cells #[.slice m0a m0.length m0c, .slice m1a m1.length m1c] 29) from by simpa using heap_new ((W.alloc (.cells #[.int .i64 d, .int .i64 ar] 51)).alloc (.cells #[.slice m0a m0.length m0c, .slice m1a m1.length m1c] 59)) (.cells #[.slice m0a m0.length m0c, .slice m1a m1.length m1c] 29))
  go_enter Tryz.func105, Tryz.ntmps105
  go_wp2_with fail
  refine (HC.out _ _ _ (S3.out.on HW.out) K3.out).mono ?_
  rintro e w3 ⟨rfl, b3⟩
  have S4 := Lib.hid (S3.out.step b3)
  clear b3
  rw [HO.out]
  generalize hr : (okNs m0 && okNs m1) = r
  go_wp2_with fail
  go_ret
  exact ⟨by rw [hr]; rfl, S4.out.bel⟩
theorem notes1_any (w0 : World) (d ar : Int) (hd : d = 0 ∨ d = 1) (m : List (List D)) (ma : Option Addr) (mc : Nat) (h : At w0 (.slice ma m.length mc) (.row m)) (s : ∀ x ∈ m, ShT x) (b T : Nat) (W : World) (hW : Below w0.heap.size w0 W) (hb : W.heap[b]? = some (.cells #[.slice ma m.length mc] T)) :
    Calls Tryz.prog 68 #[.agg #[.int .i64 d, .int .i64 ar], .slice (some ⟨b, 0, none⟩) 1 1] W fun e W' => e = .returned (.bool (okNs m)) ∧ Below W.heap.size W W' := by
  have HO : ([m] : List (List (List D))).all okNs = okNs m := by simp
  have := notes_any w0 d ar hd b T 1 [.slice ma m.length mc] [m] rfl rfl (by omega) (fun j v k hv hm => by
    match j, hv, hm with
    | 0, hv, hm => simp at hv hm; subst hv hm; exact ⟨ma, mc, rfl, h, s⟩) W hW hb
  rwa [HO] at this
theorem notes4_any (w0 : World) (d ar : Int) (hd : d = 0 ∨ d = 1) (m0 m1 m2 m3 : List (List D)) (a0 : Option Addr) (c0 : Nat) (a1 : Option Addr) (c1 : Nat) (a2 : Option Addr) (c2 : Nat) (a3 : Option Addr) (c3 : Nat) (h0 : At w0 (.slice a0 m0.length c0) (.row m0)) (h1 : At w0 (.slice a1 m1.length c1) (.row m1)) (h2 : At w0 (.slice a2 m2.length c2) (.row m2)) (h3 : At w0 (.slice a3 m3.length c3) (.row m3)) (s0 : ∀ x ∈ m0, ShT x) (s1 : ∀ x ∈ m1, ShT x) (s2 : ∀ x ∈ m2, ShT x) (s3 : ∀ x ∈ m3, ShT x) (b T : Nat) (W : World) (hW : Below w0.heap.size w0 W) (hb : W.heap[b]? = some (.cells #[.slice a0 m0.length c0, .slice a1 m1.length c1, .slice a2 m2.length c2, .slice a3 m3.length c3] T)) :
    Calls Tryz.prog 68 #[.agg #[.int .i64 d, .int .i64 ar], .slice (some ⟨b, 0, none⟩) 4 4] W fun e W' => e = .returned (.bool (okNs m0 && (okNs m1 && (okNs m2 && okNs m3)))) ∧ Below W.heap.size W W' := by
  have HO : ([m0, m1, m2, m3] : List (List (List D))).all okNs = (okNs m0 && (okNs m1 && (okNs m2 && okNs m3))) := by simp
  have := notes_any w0 d ar hd b T 4 [.slice a0 m0.length c0, .slice a1 m1.length c1, .slice a2 m2.length c2, .slice a3 m3.length c3] [m0, m1, m2, m3] rfl rfl (by omega) (fun j v k hv hm => by
    match j, hv, hm with
    | 0, hv, hm => simp at hv hm; subst hv hm; exact ⟨a0, c0, rfl, h0, s0⟩
    | 1, hv, hm => simp at hv hm; subst hv hm; exact ⟨a1, c1, rfl, h1, s1⟩
    | 2, hv, hm => simp at hv hm; subst hv hm; exact ⟨a2, c2, rfl, h2, s2⟩
    | 3, hv, hm => simp at hv hm; subst hv hm; exact ⟨a3, c3, rfl, h3, s3⟩) W hW hb
  rwa [HO] at this
end Go.Proofs.YtciijpahjjoppaaGreat
end
section
namespace Go.Proofs.YtciijpahjjoppaaGreat
open Go.RowKit Go.Deep Go.Maps

set_option maxRecDepth 100000 in
set_option maxHeartbeats 4000000 in
theorem field_any (w0 : World) (d ar : Int) (hd : d = 0 ∨ d = 1) (x : List D) (vs : List Value) (hx : ShF x) (hv : AllAt w0 vs x) (w : World) (hW : Below w0.heap.size w0 w) :
    Calls Tryz.prog 107 #[.agg #[.int .i64 d, .int .i64 ar], .agg ⟨vs⟩] w fun e w' => e = .returned (.bool (okF d x)) ∧ Below w.heap.size w w' := by
  obtain ⟨m0, m1, nm, kd, m0a, m0c, m1a, m1c, rfl, rfl, a_m0, a_m1, i0, _, t_m0, t_m1⟩ := hv.openF hx
  have A_m0 := Lib.hid a_m0
  have T_m0 := Lib.hid t_m0
  have A_m1 := Lib.hid a_m1
  have T_m1 := Lib.hid t_m1
  have HD := Lib.hid hd
  have HW := Lib.hid hW
  have S0 := Lib.hid (Bx2.start w (.cells #[.int .i64 d, .int .i64 ar] 51) (.cells #[.slice m0a m0.length m0c, .slice m1a m1.length m1c, .string nm, .int .i64 kd] 65))
  have HO := Lib.hid (show okF d [.row m0, .row m1, .str nm, .int kd] = ((okNs m0 && okNs m1) && (okName d nm && wthn kd 1 3)) from rfl)
  clear hd hW hv hx a_m0 t_m0 a_m1 t_m1
  go_enter Tryz.func107, Tryz.ntmps107
  go_wp2_with fail
  refine (marks_any w0 d ar HD.out m0 m1 m0a m0c m1a m1c A_m0.out A_m1.out T_m0.out T_m1.out _ (S0.out.on HW.out)).mono ?_
  rintro e w1 ⟨rfl, b1⟩
  have S1 := Lib.hid (S0.out.step b1)
  clear b1
  have cA := box_cells S1.out.a
  have cB := box_cells S1.out.b
  cases h1 : (okNs m0 && okNs m1) with
  | false =>
    have H1 := Lib.hid h1
    clear h1
    go_wp2_with fail
    go_ret
    exact ⟨by rw [HO.out, H1.out]; rfl, S1.out.bel⟩
  | true =>
  have H1 := Lib.hid h1
  clear h1
  go_wp2_with fail
  refine (cname_any d ar nm _ i0).mono ?_
  rintro e w2 ⟨rfl, b2⟩
  have S2 := Lib.hid (S1.out.step b2)
  clear b2 cA cB
  have cA := box_cells S2.out.a
  have cB := box_cells S2.out.b
  cases h2 : okName d nm with
  | false =>
    have H2 := Lib.hid h2
    clear h2
    go_wp2_with fail
    go_ret
    exact ⟨by rw [HO.out, H1.out, H2.out]; rfl, S2.out.bel⟩
  | true =>
  have H2 := Lib.hid h2
  clear h2
  go_wp2_with fail
  refine (isScalar_any kd _).mono ?_
  rintro e w3 ⟨rfl, rfl⟩
  cases h3 : wthn kd 1 3 with
  | false =>
    have H3 := Lib.hid h3
    clear h3
    go_wp2_with fail
    go_ret
    exact ⟨by rw [HO.out, H1.out, H2.out, H3.out]; rfl, S2.out.bel⟩
  | true =>
  have H3 := Lib.hid h3
  clear h3
  go_wp2_with fail
  go_ret
  exact ⟨by rw [HO.out, H1.out, H2.out, H3.out]; rfl, S2.out.bel⟩
set_option maxRecDepth 100000 in
set_option maxHeartbeats 4000000 in
theorem rightType_any (w0 : World) (d ar kd sz : Int) (tn : ByteArray) (ht : tn.size ≤ maxLen) (w : World) (hW : Below w0.heap.size w0 w) :
    Calls Tryz.prog 108 #[.agg #[.int .i64 d, .int .i64 ar], .agg #[.int .i64 kd, .int .i64 sz, .string tn]] w fun e w' => e = .returned (.bool (okType d kd sz tn)) ∧ Below w.heap.size w w' := by
  have HW := Lib.hid hW
  have S0 := Lib.hid (Bx2.start w (.cells #[.int .i64 d, .int .i64 ar] 51) (.cells #[.int .i64 kd, .int .i64 sz, .string tn] 73))
  clear hW
  cases h4 : kd == 4 with
  | true =>
    have HO := Lib.hid (show okType d kd sz tn = ((sz == 0) && okName d tn) by unfold okType; rw [h4]; rfl)
    cases h1 : sz == 0 with
    | false =>
      go_enter Tryz.func108, Tryz.ntmps108
      go_wp2_with fail
      go_ret
      exact ⟨by rw [HO.out, h1]; rfl, S0.out.bel⟩
    | true =>
      have H1 := Lib.hid h1
      go_enter Tryz.func108, Tryz.ntmps108
      go_wp2_with fail
      refine (cname_any d ar tn _ ht).mono ?_
      rintro e w1 ⟨rfl, b1⟩
      have S1 := Lib.hid (S0.out.step b1)
      clear b1
      generalize hr : okName d tn = r at *
      go_wp2_with fail
      go_ret
      exact ⟨by rw [HO.out, H1.out]; rfl, S1.out.bel⟩
  | false =>
    have HO := Lib.hid (show okType d kd sz tn = (wthn kd 1 3 && (wthn sz 0 64 && tn.toList.isEmpty)) by unfold okType; rw [h4]; rfl)
    go_enter Tryz.func108, Tryz.ntmps108
    go_wp2_with fail
    refine (isScalar_any kd _).mono ?_
    rintro e w1 ⟨rfl, rfl⟩
    cases h1 : wthn kd 1 3 with
    | false =>
      go_wp2_with fail
      go_ret
      exact ⟨by rw [HO.out, h1]; rfl, S0.out.bel⟩
    | true =>
      have H1 := Lib.hid h1
      clear h1
      go_wp2_with fail
      refine (within_any sz 0 64 _).mono ?_
      rintro e w1 ⟨rfl, rfl⟩
      cases h2 : wthn sz 0 64 with
      | false =>
        go_wp2_with fail
        go_ret
        exact ⟨by rw [HO.out, H1.out, h2]; rfl, S0.out.bel⟩
      | true =>
        have H2 := Lib.hid h2
        clear h2
        go_wp2_with fail
        go_ret
        exact ⟨by rw [HO.out, H1.out, H2.out]; rfl, S0.out.bel⟩
set_option maxRecDepth 100000 in
set_option maxHeartbeats 4000000 in
theorem variable_any (w0 : World) (d ar : Int) (hd : d = 0 ∨ d = 1) (x : List D) (vs : List Value) (hx : ShV x) (hv : AllAt w0 vs x) (w : World) (hW : Below w0.heap.size w0 w) :
    Calls Tryz.prog 72 #[.agg #[.int .i64 d, .int .i64 ar], .agg ⟨vs⟩] w fun e w' => e = .returned (.bool (okV d x)) ∧ Below w.heap.size w w' := by
  obtain ⟨m0, m1, nm, kd, sz, tn, m0a, m0c, m1a, m1c, rfl, rfl, a_m0, a_m1, i0, _, _, i3, t_m0, t_m1⟩ := hv.openV hx
  have A_m0 := Lib.hid a_m0
  have T_m0 := Lib.hid t_m0
  have A_m1 := Lib.hid a_m1
  have T_m1 := Lib.hid t_m1
  have HD := Lib.hid hd
  have HW := Lib.hid hW
  have S0 := Lib.hid (Bx2.start w (.cells #[.int .i64 d, .int .i64 ar] 51) (.cells #[.slice m0a m0.length m0c, .slice m1a m1.length m1c, .string nm, .int .i64 kd, .int .i64 sz, .string tn] 75))
  have HO := Lib.hid (show okV d [.row m0, .row m1, .str nm, .int kd, .int sz, .str tn] = ((okNs m0 && okNs m1) && (okName d nm && okType d kd sz tn)) from rfl)
  clear hd hW hv hx a_m0 t_m0 a_m1 t_m1
  go_enter Tryz.func72, Tryz.ntmps72
  go_wp2_with fail
  refine (marks_any w0 d ar HD.out m0 m1 m0a m0c m1a m1c A_m0.out A_m1.out T_m0.out T_m1.out _ (S0.out.on HW.out)).mono ?_
  rintro e w1 ⟨rfl, b1⟩
  have S1 := Lib.hid (S0.out.step b1)
  clear b1
  have cA := box_cells S1.out.a
  have cB := box_cells S1.out.b
  cases h1 : (okNs m0 && okNs m1) with
  | false =>
    have H1 := Lib.hid h1
    clear h1
    go_wp2_with fail
    go_ret
    exact ⟨by rw [HO.out, H1.out]; rfl, S1.out.bel⟩
  | true =>
  have H1 := Lib.hid h1
  clear h1
  go_wp2_with fail
  refine (cname_any d ar nm _ i0).mono ?_
  rintro e w2 ⟨rfl, b2⟩
  have S2 := Lib.hid (S1.out.step b2)
  clear b2 cA cB
  have cA := box_cells S2.out.a
  have cB := box_cells S2.out.b
  cases h2 : okName d nm with
  | false =>
    have H2 := Lib.hid h2
    clear h2
    go_wp2_with fail
    go_ret
    exact ⟨by rw [HO.out, H1.out, H2.out]; rfl, S2.out.bel⟩
  | true =>
  have H2 := Lib.hid h2
  clear h2
  go_wp2_with fail
  refine (rightType_any w0 d ar kd sz tn i3 _ (S2.out.on HW.out)).mono ?_
  rintro e w3 ⟨rfl, b3⟩
  have S3 := Lib.hid (S2.out.step b3)
  clear b3 cA cB
  have cA := box_cells S3.out.a
  have cB := box_cells S3.out.b
  cases h3 : okType d kd sz tn with
  | false =>
    have H3 := Lib.hid h3
    clear h3
    go_wp2_with fail
    go_ret
    exact ⟨by rw [HO.out, H1.out, H2.out, H3.out]; rfl, S3.out.bel⟩
  | true =>
  have H3 := Lib.hid h3
  clear h3
  go_wp2_with fail
  go_ret
  exact ⟨by rw [HO.out, H1.out, H2.out, H3.out]; rfl, S3.out.bel⟩
end Go.Proofs.YtciijpahjjoppaaGreat
end
section
namespace Go.Proofs.YtciijpahjjoppaaGreat
open Go.RowKit Go.Deep
set_option maxRecDepth 100000 in
set_option maxHeartbeats 1000000 in
theorem allF_any (w0 : World) (g : Nat) (c : Value) (f : List D → Bool) (a : Option Addr) (len cap : Nat) (l : List (List D)) (hA : At w0 (.slice a len cap) (.row l)) (hs : ∀ x ∈ l, ShF x) (hf : OkFn w0 g c l f) (eg : ∀ args w, (callFunc g args).run Tryz.prog w = .ok (.enter g args) w) (W : World) (hW : Below w0.heap.size w0 W) :
    Calls Tryz.prog 106 #[.slice a len cap, .func (.func g) #[c] #[]] W fun e W' => e = .returned (.bool (okAll l f)) ∧ Below W.heap.size W W' := by
  have HA := Lib.hid hA
  have HS := Lib.hid hs
  have HF := Lib.hid hf
  have HW := Lib.hid hW
  have hle := hA.len_le
  have HL := Lib.hid hA.len_eq.1
  clear hA hs hf hW
  by_cases hbig : 512 < len
  · have hd : decide ((512 : Int) < (len : Int)) = true := by simp; omega
    have HO := Lib.hid (okAll_long (f := f) (show 512 < l.length by rw [HL.out]; exact hbig))
    go_enter Tryz.func106, Tryz.ntmps106
    go_wp2_with fail
    go_ret
    exact ⟨by rw [HO.out]; rfl, Below.refl _ _⟩
  · have hd : decide ((512 : Int) < (len : Int)) = false := by simp; omega
    go_enter Tryz.func106, Tryz.ntmps106
    go_wp2_with fail
    go_loopw [12] (fun i wr => ∃ k : Nat, k ≤ len ∧ i = .int .i64 k ∧ (l.take k).all f = true ∧ Below W.heap.size W wr) (fun i _ => len - (intOf i).toNat)
    case atStart => exact ⟨0, Nat.zero_le _, rfl, rfl, Below.refl _ _⟩
    case round =>
      obtain ⟨k, hk, rfl, ht, hb⟩ := hrel
      have HT := Lib.hid ht
      have HB := Lib.hid hb
      clear ht hb
      by_cases hlt : k < len
      · obtain ⟨b, o, vs, ds, rfl, hbl, hx, hv, hc⟩ := HA.out.elem hlt
        have hfn := HF.out ds (List.mem_of_getElem? hx) vs hv
        have hdl : ds.length = 4 := (HS.out _ (List.mem_of_getElem? hx)).ln
        rw [hdl] at hc
        have hvl := Lib.hid (hv.len.trans hdl)
        have hvo := Lib.hid hv.one
        clear hdl hv
        have B0 := HW.out.trans (HB.out.mono HW.out.size)
        have hbw : b < wr.heap.size := Nat.lt_of_lt_of_le hbl B0.size
        have C0 := Lib.hid (show ∀ j v, vs[j]? = some v → wr.cell? ⟨b, o + k * 4 + j, none⟩ = some v from fun j v hv => (B0.cell (p := ⟨b, o + k * 4 + j, none⟩) hbl).trans (hc j v hv))
        have N1 := (Below.refl wr.heap.size wr).alloc (Nat.le_refl _) (.cells ⟨vs⟩ 65)
        have C2 := Lib.hid (show ∀ j v, vs[j]? = some v → (wr.alloc (.cells ⟨vs⟩ 65)).cell? ⟨wr.heap.size, 0 + j, none⟩ = some v from fun j v hv => by
          rw [box_cells (heap_new wr (.cells ⟨vs⟩ 65))]
          simpa using hv)
        have FN := Lib.hid (hfn _ (B0.trans (N1.mono B0.size)))
        have HR := Lib.hid (HB.out.trans (N1.mono HB.out.size))
        have HX := Lib.hid hx
        clear hfn hx B0 hc N1
        go_wp2_with (first
          | ((with_reducible refine wp_loadAgg (o := ⟨some 15, _, _, _, _, _⟩) rfl (.tmp 14) 65 rfl 4 Tryz.isAgg65 Tryz.sizeOf65 b (o + k * 4) ?_ vs hvl.out C0.out ?_); rfl)
          | ((with_reducible refine wp_storeNew (o := ⟨none, .store 65 (.tmp 6) (.tmp 15), _, _, _, _⟩) rfl (.tmp 6) (.tmp 15) 65 rfl 4 Tryz.sizeOf65 _ ?_ ?_ vs ?_ hvl.out hvo.out ?_); rfl; rfl; rfl)
          | ((with_reducible refine wp_loadAgg (o := ⟨some 17, _, _, _, _, _⟩) rfl (.tmp 6) 65 rfl 4 Tryz.isAgg65 Tryz.sizeOf65 wr.heap.size 0 ?_ vs hvl.out C2.out ?_); rfl))
        refine FN.out.mono ?_
        rintro e w3 ⟨rfl, b3⟩
        have HB4 := Lib.hid (HR.out.trans (b3.mono HR.out.size))
        clear b3
        cases hsm : f ds with
        | true =>
          have HE := Lib.hid (all_take_succ HX.out HT.out hsm)
          clear hsm
          go_wp2_with fail
          go_roundw
          case rel => exact ⟨k + 1, by omega, by go_num, HE.out, HB4.out⟩
          case measure => simp [intOf]; omega
        | false =>
          have HE := Lib.hid (okAll_bad HX.out hsm)
          clear hsm
          go_wp2_with fail
          go_ret
          exact ⟨by rw [HE.out]; rfl, HB4.out⟩
      · obtain rfl : k = len := by omega
        have HE := Lib.hid (okAll_good (l := l) (f := f) (by rw [HL.out]; omega) (by rw [HL.out]; exact HT.out))
        go_wp2_with fail
        go_ret
        exact ⟨by rw [HE.out]; rfl, HB.out⟩
end Go.Proofs.YtciijpahjjoppaaGreat
end
section
namespace Go.Proofs.YtciijpahjjoppaaGreat
open Go.RowKit Go.Deep Go.Maps

set_option maxRecDepth 100000 in
set_option maxHeartbeats 4000000 in
theorem record_any (w0 : World) (d ar : Int) (hd : d = 0 ∨ d = 1) (x : List D) (vs : List Value) (hx : ShC x) (hv : AllAt w0 vs x) (w : World) (hW : Below w0.heap.size w0 w) :
    Calls Tryz.prog 70 #[.agg #[.int .i64 d, .int .i64 ar], .agg ⟨vs⟩] w fun e w' => e = .returned (.bool (okC d x)) ∧ Below w.heap.size w w' := by
  obtain ⟨m0, m1, nm, fs, en, m0a, m0c, m1a, m1c, fsa, fsc, ena, enc, rfl, rfl, a_m0, a_m1, i0, a_fs, a_en, t_m0, t_m1, t_fs, t_en⟩ := hv.openC hx
  have HF := Lib.hid (show OkFn w0 107 (.agg #[.int .i64 d, .int .i64 ar]) fs (okF d) from fun y hy us hu W hW => field_any w0 d ar hd y us (t_fs y hy) hu W hW)
  have eg := enters_of Tryz.func107 (by kernel_rfl) rfl
  have A_m0 := Lib.hid a_m0
  have T_m0 := Lib.hid t_m0
  have A_m1 := Lib.hid a_m1
  have T_m1 := Lib.hid t_m1
  have A_fs := Lib.hid a_fs
  have T_fs := Lib.hid t_fs
  have A_en := Lib.hid a_en
  have T_en := Lib.hid t_en
  have HD := Lib.hid hd
  have HW := Lib.hid hW
  have S0 := Lib.hid (Bx2.start w (.cells #[.int .i64 d, .int .i64 ar] 51) (.cells #[.slice m0a m0.length m0c, .slice m1a m1.length m1c, .string nm, .slice fsa fs.length fsc, .slice ena en.length enc] 62))
  have HO := Lib.hid (show okC d [.row m0, .row m1, .str nm, .row fs, .row en] = ((okNs m0 && okNs m1) && (okName d nm && (decide (0 < fs.length) && (okAll fs (okF d) && okNs en)))) from rfl)
  clear hd hW hv hx a_m0 t_m0 a_m1 t_m1 a_fs t_fs a_en t_en
  go_enter Tryz.func70, Tryz.ntmps70
  go_wp2_with fail
  refine (marks_any w0 d ar HD.out m0 m1 m0a m0c m1a m1c A_m0.out A_m1.out T_m0.out T_m1.out _ (S0.out.on HW.out)).mono ?_
  rintro e w1 ⟨rfl, b1⟩
  have S1 := Lib.hid (S0.out.step b1)
  clear b1
  have cA := box_cells S1.out.a
  have cB := box_cells S1.out.b
  cases h1 : (okNs m0 && okNs m1) with
  | false =>
    have H1 := Lib.hid h1
    clear h1
    go_wp2_with fail
    go_ret
    exact ⟨by rw [HO.out, H1.out]; rfl, S1.out.bel⟩
  | true =>
  have H1 := Lib.hid h1
  clear h1
  go_wp2_with fail
  refine (cname_any d ar nm _ i0).mono ?_
  rintro e w2 ⟨rfl, b2⟩
  have S2 := Lib.hid (S1.out.step b2)
  clear b2 cA cB
  have cA := box_cells S2.out.a
  have cB := box_cells S2.out.b
  cases h2 : okName d nm with
  | false =>
    have H2 := Lib.hid h2
    clear h2
    go_wp2_with fail
    go_ret
    exact ⟨by rw [HO.out, H1.out, H2.out]; rfl, S2.out.bel⟩
  | true =>
  have H2 := Lib.hid h2
  clear h2
  cases h3 : decide (0 < fs.length) with
  | false =>
    have H3 := Lib.hid h3
    have g1 : decide ((0 : Int) < (fs.length : Int)) = false := by simpa using h3
    go_wp2_with fail
    go_ret
    exact ⟨by rw [HO.out, H1.out, H2.out, H3.out]; rfl, S2.out.bel⟩
  | true =>
  have H3 := Lib.hid h3
  have g1 : decide ((0 : Int) < (fs.length : Int)) = true := by simpa using h3
  go_wp2_with fail
  refine (allF_any w0 107 (.agg #[.int .i64 d, .int .i64 ar]) (okF d) fsa fs.length fsc fs A_fs.out T_fs.out HF.out eg _ (S2.out.on HW.out)).mono ?_
  rintro e w3 ⟨rfl, b3⟩
  have S3 := Lib.hid (S2.out.step b3)
  clear b3 cA cB
  have cA := box_cells S3.out.a
  have cB := box_cells S3.out.b
  cases h4 : okAll fs (okF d) with
  | false =>
    have H4 := Lib.hid h4
    clear h4
    go_wp2_with fail
    go_ret
    exact ⟨by rw [HO.out, H1.out, H2.out, H3.out, H4.out]; rfl, S3.out.bel⟩
  | true =>
  have H4 := Lib.hid h4
  clear h4
  go_wp2_with fail
  refine (notes1_any w0 d ar HD.out en ena enc A_en.out T_en.out _ 29 _ ((S3.out.step ((Below.refl _ _).alloc (Nat.le_refl _) (.cells #[.slice ena en.length enc] 29))).on HW.out) (heap_new _ _)).mono ?_
  rintro e w4 ⟨rfl, b4⟩
  have S4 := Lib.hid ((S3.out.step ((Below.refl _ _).alloc (Nat.le_refl _) (.cells #[.slice ena en.length enc] 29))).step b4)
  clear b4 cA cB
  have cA := box_cells S4.out.a
  have cB := box_cells S4.out.b
  cases h5 : okNs en with
  | false =>
    have H5 := Lib.hid h5
    clear h5
    go_wp2_with fail
    go_ret
    exact ⟨by rw [HO.out, H1.out, H2.out, H3.out, H4.out, H5.out]; rfl, S4.out.bel⟩
  | true =>
  have H5 := Lib.hid h5
  clear h5
  go_wp2_with fail
  go_ret
  exact ⟨by rw [HO.out, H1.out, H2.out, H3.out, H4.out, H5.out]; rfl, S4.out.bel⟩
set_option maxRecDepth 100000 in
set_option maxHeartbeats 4000000 in
theorem mode_any (d ar kd sz md : Int) (nm tn : ByteArray) (w : World) :
    Calls Tryz.prog 153 #[.agg #[.int .i64 d, .int .i64 ar], .agg #[.string nm, .int .i64 kd, .int .i64 sz, .string tn, .int .i64 md]] w fun e w' => e = .returned (.bool (okMode d kd sz md)) ∧ Below w.heap.size w w' := by
  have S0 := Lib.hid (Bx2.start w (.cells #[.int .i64 d, .int .i64 ar] 51) (.cells #[.string nm, .int .i64 kd, .int .i64 sz, .string tn, .int .i64 md] 133))
  cases h0 : md == 0 with
  | true =>
    have HO := Lib.hid (show okMode d kd sz md = (wthn kd 1 3 && (sz == 0)) by unfold okMode; rw [h0]; rfl)
    go_enter Tryz.func153, Tryz.ntmps153
    go_wp2_with fail
    refine (isScalar_any kd _).mono ?_
    rintro e w1 ⟨rfl, rfl⟩
    cases h1 : wthn kd 1 3 with
    | false =>
      go_wp2_with fail
      go_ret
      exact ⟨by rw [HO.out, h1]; rfl, S0.out.bel⟩
    | true =>
      have H1 := Lib.hid h1
      clear h1
      go_wp2_with fail
      go_ret
      exact ⟨by rw [HO.out, H1.out]; rfl, S0.out.bel⟩
  | false =>
    cases h1 : md == 1 with
    | true =>
      have HO := Lib.hid (show okMode d kd sz md = true by unfold okMode; rw [h0, h1]; rfl)
      go_enter Tryz.func153, Tryz.ntmps153
      go_wp2_with fail
      go_ret
      exact ⟨by rw [HO.out]; rfl, S0.out.bel⟩
    | false =>
      have HO := Lib.hid (show okMode d kd sz md = ((md == 2) && (d == 1)) by unfold okMode; rw [h0, h1]; rfl)
      cases h2 : md == 2 with
      | true =>
        rw [h2] at HO
        go_enter Tryz.func153, Tryz.ntmps153
        go_wp2_with fail
        go_ret
        exact ⟨by rw [HO.out]; rfl, S0.out.bel⟩
      | false =>
        rw [h2] at HO
        go_enter Tryz.func153, Tryz.ntmps153
        go_wp2_with fail
        go_ret
        exact ⟨by rw [HO.out]; rfl, S0.out.bel⟩
set_option maxRecDepth 100000 in
set_option maxHeartbeats 4000000 in
theorem param_any (w0 : World) (d ar : Int) (x : List D) (vs : List Value) (hx : ShP x) (hv : AllAt w0 vs x) (w : World) (hW : Below w0.heap.size w0 w) :
    Calls Tryz.prog 138 #[.agg #[.int .i64 d, .int .i64 ar], .agg ⟨vs⟩] w fun e w' => e = .returned (.bool (okP d x)) ∧ Below w.heap.size w w' := by
  obtain ⟨nm, kd, sz, tn, md, rfl, rfl, i0, _, _, i3, _⟩ := hv.openP hx
  have HW := Lib.hid hW
  have S0 := Lib.hid (Bx2.start w (.cells #[.int .i64 d, .int .i64 ar] 51) (.cells #[.string nm, .int .i64 kd, .int .i64 sz, .string tn, .int .i64 md] 133))
  have HO := Lib.hid (show okP d [.str nm, .int kd, .int sz, .str tn, .int md] = (okName d nm && (okType d kd sz tn && okMode d kd sz md)) from rfl)
  clear hW hv hx
  go_enter Tryz.func138, Tryz.ntmps138
  go_wp2_with fail
  refine (cname_any d ar nm _ i0).mono ?_
  rintro e w1 ⟨rfl, b1⟩
  have S1 := Lib.hid (S0.out.step b1)
  clear b1
  have cA := box_cells S1.out.a
  have cB := box_cells S1.out.b
  cases h1 : okName d nm with
  | false =>
    have H1 := Lib.hid h1
    clear h1
    go_wp2_with fail
    go_ret
    exact ⟨by rw [HO.out, H1.out]; rfl, S1.out.bel⟩
  | true =>
  have H1 := Lib.hid h1
  clear h1
  go_wp2_with fail
  refine (rightType_any w0 d ar kd sz tn i3 _ (S1.out.on HW.out)).mono ?_
  rintro e w2 ⟨rfl, b2⟩
  have S2 := Lib.hid (S1.out.step b2)
  clear b2 cA cB
  have cA := box_cells S2.out.a
  have cB := box_cells S2.out.b
  cases h2 : okType d kd sz tn with
  | false =>
    have H2 := Lib.hid h2
    clear h2
    go_wp2_with fail
    go_ret
    exact ⟨by rw [HO.out, H1.out, H2.out]; rfl, S2.out.bel⟩
  | true =>
  have H2 := Lib.hid h2
  clear h2
  go_wp2_with fail
  refine (mode_any d ar kd sz md nm tn _).mono ?_
  rintro e w3 ⟨rfl, b3⟩
  have S3 := Lib.hid (S2.out.step b3)
  clear b3 cA cB
  have cA := box_cells S3.out.a
  have cB := box_cells S3.out.b
  cases h3 : okMode d kd sz md with
  | false =>
    have H3 := Lib.hid h3
    clear h3
    go_wp2_with fail
    go_ret
    exact ⟨by rw [HO.out, H1.out, H2.out, H3.out]; rfl, S3.out.bel⟩
  | true =>
  have H3 := Lib.hid h3
  clear h3
  go_wp2_with fail
  go_ret
  exact ⟨by rw [HO.out, H1.out, H2.out, H3.out]; rfl, S3.out.bel⟩
end Go.Proofs.YtciijpahjjoppaaGreat
end
section
namespace Go.Proofs.YtciijpahjjoppaaGreat
open Go.RowKit Go.Deep Go.Maps

def modeD : List D → Int
  | [_, _, _, _, .int md] => md
  | _ => 0
/-- ByUp stands behind all others. -/
def upsL : Bool → List (List D) → Bool
  | _, [] => true
  | up, x :: r => !(up && (modeD x != 2)) && upsL (modeD x == 2) r
theorem upsL_cons (up : Bool) (x : List D) (r : List (List D)) : upsL up (x :: r) = (!(up && (modeD x != 2)) && upsL (modeD x == 2) r) := rfl
def UpsTo (l : List (List D)) (k : Nat) (up : Bool) : Prop := upsL false l = upsL up (l.drop k)
set_option maxRecDepth 100000 in
set_option maxHeartbeats 2000000 in
theorem upsAreLast_any (w0 : World) (a : Option Addr) (len cap : Nat) (l : List (List D)) (hA : At w0 (.slice a len cap) (.row l)) (hs : ∀ x ∈ l, ShP x) (W : World) (hW : Below w0.heap.size w0 W) :
    Calls Tryz.prog 139 #[.slice a len cap] W fun e W' => e = .returned (.bool (upsL false l)) ∧ Below W.heap.size W W' := by
  have HA := Lib.hid hA
  have HS := Lib.hid hs
  have HW := Lib.hid hW
  have hle := hA.len_le
  have HL := Lib.hid hA.len_eq.1
  clear hA hs hW
  go_enter Tryz.func139, Tryz.ntmps139
  go_wp2_with fail
  go_loopw [3, 8] (fun u i wr => ∃ (k : Nat) (up : Bool), k ≤ len ∧ i = .int .i64 k ∧ u = .bool up ∧ Hid (UpsTo l k up) ∧ Hid (Below W.heap.size W wr)) (fun _ i _ => len - (intOf i).toNat)
  case atStart => exact ⟨0, false, Nat.zero_le _, rfl, rfl, Lib.hid (by unfold UpsTo; rw [List.drop_zero]), Lib.hid (Below.refl _ _)⟩
  case round =>
    obtain ⟨k, up, hk, rfl, rfl, HT, HB⟩ := hrel
    by_cases hlt : k < len
    · obtain ⟨b, o, vs, ds, rfl, hbl, hx, hv, hc⟩ := HA.out.elem hlt
      obtain ⟨nm, kd, sz, tn, md, hds, hvs, _⟩ := hv.openP (HS.out _ (List.mem_of_getElem? hx))
      subst hvs
      have hdl : ds.length = 5 := by rw [hds]; rfl
      rw [hdl] at hc
      have B0 := HW.out.trans (HB.out.mono HW.out.size)
      have c0 := (B0.cell (p := ⟨b, o + k * 5, none⟩) hbl).trans (hc 0 _ rfl)
      have c1 := (B0.cell (p := ⟨b, o + k * 5 + 1, none⟩) hbl).trans (hc 1 _ rfl)
      have c2 := (B0.cell (p := ⟨b, o + k * 5 + 2, none⟩) hbl).trans (hc 2 _ rfl)
      have c3 := (B0.cell (p := ⟨b, o + k * 5 + 3, none⟩) hbl).trans (hc 3 _ rfl)
      have c4 := (B0.cell (p := ⟨b, o + k * 5 + 4, none⟩) hbl).trans (hc 4 _ rfl)
      have hbw : b < wr.heap.size := Nat.lt_of_lt_of_le hbl B0.size
      have HX := Lib.hid (drop_at hx)
      have HMD := Lib.hid (show modeD ds = md by rw [hds]; rfl)
      have HR := Lib.hid (HB.out.alloc HB.out.size (.cells #[.string nm, .int .i64 kd, .int .i64 sz, .string tn, .int .i64 md] 133))
      have HN := Lib.hid (show upsL false l = (!(up && (md != 2)) && upsL (md == 2) (l.drop (k + 1))) by have := HT.out; unfold UpsTo at this; rw [this, HX.out, upsL_cons, HMD.out])
      clear hx hds hdl hc B0 hv
      cases hm : md == 2 with
      | true =>
        have hm' : (md != 2) = false := by rw [bne, hm]; rfl
        have HE := Lib.hid (show UpsTo l (k + 1) true by unfold UpsTo; rw [HN.out, hm, hm', Bool.and_false]; rfl)
        cases up with
        | true =>
          go_wp2_with fail
          go_roundw
          case rel => exact ⟨k + 1, true, by omega, by go_num, rfl, HE, HR⟩
          case measure => simp [intOf]; omega
        | false =>
          go_wp2_with fail
          go_roundw
          case rel => exact ⟨k + 1, true, by omega, by go_num, rfl, HE, HR⟩
          case measure => simp [intOf]; omega
      | false =>
        have hm' : (md != 2) = true := by rw [bne, hm]; rfl
        cases up with
        | true =>
          have HE := Lib.hid (show upsL false l = false by rw [HN.out, hm']; rfl)
          go_wp2_with fail
          go_ret
          exact ⟨by rw [HE.out]; rfl, HR.out⟩
        | false =>
          have HE := Lib.hid (show UpsTo l (k + 1) false by unfold UpsTo; rw [HN.out, hm]; rfl)
          go_wp2_with fail
          go_roundw
          case rel => exact ⟨k + 1, false, by omega, by go_num, rfl, HE, HR⟩
          case measure => simp [intOf]; omega
    · obtain rfl : k = len := by omega
      have HE := Lib.hid (show upsL false l = true by have := HT.out; unfold UpsTo at this; rw [this, ← HL.out, List.drop_length]; cases up <;> rfl)
      go_wp2_with fail
      go_ret
      exact ⟨by rw [HE.out]; rfl, HB.out⟩

def nmR : List D → ByteArray
  | .row _ :: .row _ :: .str nm :: _ => nm
  | _ => .empty
def nmsR (l : List (List D)) : List ByteArray := l.map nmR
def uniq : List ByteArray → List ByteArray → Bool
  | _, [] => true
  | s, x :: r => !isIn x s && uniq (s ++ [x]) r
theorem size_snoc (l : List ByteArray) (x : ByteArray) : Maps.size (setD (l ++ [x])) = if isIn x l then Maps.size (setD l) else Maps.size (setD l) + 1 := by
  have h := size_put (k := keyL x) (D := setD l) (tidy_setOf _ _ (fun y hy => by obtain ⟨_, _, rfl⟩ := List.mem_map.1 hy; trivial)) (.agg [])
  rw [setD_snoc, h, has_setD]
theorem size_up (s r : List ByteArray) : Maps.size (setD (s ++ r)) ≤ Maps.size (setD s) + r.length := by
  induction r generalizing s with
  | nil => simp
  | cons x r ih =>
    have h := ih (s ++ [x])
    rw [List.append_assoc, List.singleton_append, size_snoc] at h
    rw [List.length_cons]
    split at h <;> omega
theorem uniq_size (r : List ByteArray) : ∀ s, uniq s r = (Maps.size (setD (s ++ r)) == Maps.size (setD s) + r.length) := by
  induction r with
  | nil => intro s; simp [uniq]
  | cons x r ih =>
    intro s
    have h := ih (s ++ [x])
    have hu := size_up (s ++ [x]) r
    unfold uniq
    rw [h]
    rw [List.append_assoc, List.singleton_append] at *
    rw [size_snoc] at *
    cases hi : isIn x s with
    | true =>
      rw [hi] at hu
      simp only [if_true] at hu
      simp
      omega
    | false =>
      simp
      rw [show Maps.size (setD s) + 1 + r.length = Maps.size (setD s) + (r.length + 1) by omega]
theorem nms_take {l : List (List D)} {k : Nat} {x : List D} (hx : l[k]? = some x) : nmsR (l.take (k + 1)) = nmsR (l.take k) ++ [nmR x] := by
  unfold nmsR
  rw [List.take_add_one, hx, List.map_append]
  rfl
set_option maxRecDepth 100000 in
set_option maxHeartbeats 2000000 in
theorem haveOwn_any (w0 : World) (a : Option Addr) (len cap : Nat) (l : List (List D)) (hA : At w0 (.slice a len cap) (.row l)) (hs : ∀ x ∈ l, ShR x) (hl5 : l.length ≤ 512) (W : World) (hW : Below w0.heap.size w0 W) :
    Calls Tryz.prog 111 #[.slice a len cap] W fun e W' => e = .returned (.bool (uniq [] (nmsR l))) ∧ Below W.heap.size W W' := by
  have HA := Lib.hid hA
  have HS := Lib.hid hs
  have HW := Lib.hid hW
  have hle := hA.len_le
  have HL := Lib.hid hA.len_eq.1
  have hlen5 : len ≤ 512 := by have := hA.len_eq.1; omega
  clear hA hs hW hl5
  have hmm := @run_makeMap Tryz.prog
  go_enter Tryz.func111, Tryz.ntmps111
  go_wp2_with fail
  go_loopw [9] (fun i wr => ∃ k : Nat, k ≤ len ∧ i = .int .i64 k ∧ Hid (SetAt wr W.heap.size (nmsR (l.take k)).length (setD (nmsR (l.take k)))) ∧ Hid (Below W.heap.size W wr)) (fun i _ => len - (intOf i).toNat)
  case atStart => exact ⟨0, Nat.zero_le _, rfl, Lib.hid (World.ownsMap_made _ _ _ _), Lib.hid ((Below.refl _ _).alloc (Nat.le_refl _) _)⟩
  case round =>
    obtain ⟨k, hk, rfl, HO, HB⟩ := hrel
    by_cases hlt : k < len
    · obtain ⟨b, o, vs, ds, rfl, hbl, hx, hv, hc⟩ := HA.out.elem hlt
      obtain ⟨m0, m1, nm, rs, ps, vr, inn, bd, en, m0a, m0c, m1a, m1c, psa, psc, vra, vrc, inna, innc, bda, bdc, ena, enc, hds, hvs, _, _, hnm, _⟩ := hv.openR (HS.out _ (List.mem_of_getElem? hx))
      have hdl : ds.length = 9 := by rw [hds]; rfl
      rw [hdl] at hc
      have hvl := Lib.hid (hv.len.trans hdl)
      have hvo := Lib.hid hv.one
      have B0 := HW.out.trans (HB.out.mono HW.out.size)
      have hbw : b < wr.heap.size := Nat.lt_of_lt_of_le hbl B0.size
      have C0 := Lib.hid (show ∀ j v, vs[j]? = some v → wr.cell? ⟨b, o + k * 9 + j, none⟩ = some v from fun j v hv => (B0.cell (p := ⟨b, o + k * 9 + j, none⟩) hbl).trans (hc j v hv))
      have N1 := (Below.refl wr.heap.size wr).alloc (Nat.le_refl _) (.cells ⟨vs⟩ 80)
      have c2 : (wr.alloc (.cells ⟨vs⟩ 80)).cell? ⟨wr.heap.size, 2, none⟩ = some (.string nm) := by
        rw [box_cells (heap_new wr (.cells ⟨vs⟩ 80)), hvs]
        rfl
      have HR := Lib.hid (HB.out.trans (N1.mono HB.out.size))
      have HO1 := Lib.hid (show SetAt (wr.alloc (.cells ⟨vs⟩ 80)) W.heap.size (nmsR (l.take k)).length (setD (nmsR (l.take k))) from HO.out.alloc _)
      have HX := Lib.hid (show nmsR (l.take (k + 1)) = nmsR (l.take k) ++ [nm] by rw [nms_take hx, hds]; rfl)
      have HK := Lib.hid (key9 hnm)
      have hlk : (nmsR (l.take k)).length ≤ 512 := by unfold nmsR; rw [List.length_map, List.length_take]; omega
      clear hx hds hdl hc B0 hv N1 hvs
      go_wp2_with (first
        | ((with_reducible refine wp_loadAgg (o := ⟨some 12, _, _, _, _, _⟩) rfl (.tmp 11) 80 rfl 9 Tryz.isAgg80 Tryz.sizeOf80 b (o + k * 9) ?_ vs hvl.out C0.out ?_); rfl)
        | ((with_reducible refine wp_storeNew (o := ⟨none, .store 80 (.tmp 5) (.tmp 12), _, _, _, _⟩) rfl (.tmp 5) (.tmp 12) 80 rfl 9 Tryz.sizeOf80 _ ?_ ?_ vs ?_ hvl.out hvo.out ?_); rfl; rfl; rfl)
        | (at_mapUpdate; refine wpList_mapUpdate_own _ rfl _ _ _ 92 rfl 9 93 law9 under92 (unitElem (H := Unit)) W.heap.size _ _ rfl HO1.out (by unfold maxLen; omega) _ _ _ rfl rfl HK.out _ [] unitElem_mk ?_; intro w1 hown1 hgrow1))
      have HO3 := Lib.hid hown1
      have HB3 := Lib.hid (HR.out.grown hgrow1 HR.out.size (fun j hj => by cases hj; exact Nat.le_refl _))
      clear hown1 hgrow1
      go_roundw
      case rel =>
        refine ⟨k + 1, by omega, by go_num, Lib.hid ?_, HB3⟩
        rw [HX.out, setD_snoc, List.length_append, List.length_singleton]
        exact HO3.out
      case measure => simp [intOf]; omega
    · obtain rfl : k = len := by omega
      have HE := Lib.hid (show uniq [] (nmsR l) = (((Maps.size (setD (nmsR (l.take k))) : Nat) : Int) == ((k : Nat) : Int)) by
        rw [uniq_size, List.nil_append]
        rw [show l.take k = l by rw [← HL.out, List.take_length]]
        rw [show Maps.size (setD ([] : List ByteArray)) = 0 from rfl, Nat.zero_add, show (nmsR l).length = k by unfold nmsR; rw [List.length_map, HL.out], Bool.eq_iff_iff]
        simp only [beq_iff_eq]
        omega)
      have HQ := Lib.hid (show Maps.size (setD (nmsR (l.take k))) ≤ 512 by
        have h1 := size_up [] (nmsR (l.take k))
        rw [List.nil_append, show Maps.size (setD ([] : List ByteArray)) = 0 from rfl] at h1
        have h2 : (nmsR (l.take k)).length ≤ k := by unfold nmsR; rw [List.length_map, List.length_take]; omega
        omega)
      generalize setD (nmsR (l.take k)) = Q at *
      generalize hq : Maps.size Q = q at *
      have hq5 := HQ.out
      have HZ := Lib.hid hq
      clear hq
      cases hb : ((q : Int) == (k : Int)) with
      | true =>
        rw [hb] at HE
        go_wp2_with (at_len; refine wpList_len_own _ rfl _ 92 rfl 9 93 under92 _ W.heap.size _ _ rfl HO.out ?_; rw [HZ.out])
        go_ret
        exact ⟨by rw [HE.out]; rfl, HB.out⟩
      | false =>
        rw [hb] at HE
        go_wp2_with (at_len; refine wpList_len_own _ rfl _ 92 rfl 9 93 under92 _ W.heap.size _ _ rfl HO.out ?_; rw [HZ.out])
        go_ret
        exact ⟨by rw [HE.out]; rfl, HB.out⟩
end Go.Proofs.YtciijpahjjoppaaGreat
end
section
namespace Go.Proofs.YtciijpahjjoppaaGreat
open Go.RowKit Go.Deep
set_option maxRecDepth 100000 in
set_option maxHeartbeats 1000000 in
theorem allS_any (w0 : World) (g : Nat) (c : Value) (f : List D → Bool) (a : Option Addr) (len cap : Nat) (l : List (List D)) (hA : At w0 (.slice a len cap) (.row l)) (hs : ∀ x ∈ l, ShS x) (hf : OkFn w0 g c l f) (eg : ∀ args w, (callFunc g args).run Tryz.prog w = .ok (.enter g args) w) (W : World) (hW : Below w0.heap.size w0 W) :
    Calls Tryz.prog 74 #[.slice a len cap, .func (.func g) #[c] #[]] W fun e W' => e = .returned (.bool (okAll l f)) ∧ Below W.heap.size W W' := by
  have HA := Lib.hid hA
  have HS := Lib.hid hs
  have HF := Lib.hid hf
  have HW := Lib.hid hW
  have hle := hA.len_le
  have HL := Lib.hid hA.len_eq.1
  clear hA hs hf hW
  by_cases hbig : 512 < len
  · have hd : decide ((512 : Int) < (len : Int)) = true := by simp; omega
    have HO := Lib.hid (okAll_long (f := f) (show 512 < l.length by rw [HL.out]; exact hbig))
    go_enter Tryz.func74, Tryz.ntmps74
    go_wp2_with fail
    go_ret
    exact ⟨by rw [HO.out]; rfl, Below.refl _ _⟩
  · have hd : decide ((512 : Int) < (len : Int)) = false := by simp; omega
    go_enter Tryz.func74, Tryz.ntmps74
    go_wp2_with fail
    go_loopw [12] (fun i wr => ∃ k : Nat, k ≤ len ∧ i = .int .i64 k ∧ (l.take k).all f = true ∧ Below W.heap.size W wr) (fun i _ => len - (intOf i).toNat)
    case atStart => exact ⟨0, Nat.zero_le _, rfl, rfl, Below.refl _ _⟩
    case round =>
      obtain ⟨k, hk, rfl, ht, hb⟩ := hrel
      have HT := Lib.hid ht
      have HB := Lib.hid hb
      clear ht hb
      by_cases hlt : k < len
      · obtain ⟨b, o, vs, ds, rfl, hbl, hx, hv, hc⟩ := HA.out.elem hlt
        have hfn := HF.out ds (List.mem_of_getElem? hx) vs hv
        have hdl : ds.length = 16 := (HS.out _ (List.mem_of_getElem? hx)).ln
        rw [hdl] at hc
        have hvl := Lib.hid (hv.len.trans hdl)
        have hvo := Lib.hid hv.one
        clear hdl hv
        have B0 := HW.out.trans (HB.out.mono HW.out.size)
        have hbw : b < wr.heap.size := Nat.lt_of_lt_of_le hbl B0.size
        have C0 := Lib.hid (show ∀ j v, vs[j]? = some v → wr.cell? ⟨b, o + k * 16 + j, none⟩ = some v from fun j v hv => (B0.cell (p := ⟨b, o + k * 16 + j, none⟩) hbl).trans (hc j v hv))
        have N1 := (Below.refl wr.heap.size wr).alloc (Nat.le_refl _) (.cells ⟨vs⟩ 84)
        have C2 := Lib.hid (show ∀ j v, vs[j]? = some v → (wr.alloc (.cells ⟨vs⟩ 84)).cell? ⟨wr.heap.size, 0 + j, none⟩ = some v from fun j v hv => by
          rw [box_cells (heap_new wr (.cells ⟨vs⟩ 84))]
          simpa using hv)
        have FN := Lib.hid (hfn _ (B0.trans (N1.mono B0.size)))
        have HR := Lib.hid (HB.out.trans (N1.mono HB.out.size))
        have HX := Lib.hid hx
        clear hfn hx B0 hc N1
        go_wp2_with (first
          | ((with_reducible refine wp_loadAgg (o := ⟨some 15, _, _, _, _, _⟩) rfl (.tmp 14) 84 rfl 16 Tryz.isAgg84 Tryz.sizeOf84 b (o + k * 16) ?_ vs hvl.out C0.out ?_); rfl)
          | ((with_reducible refine wp_storeNew (o := ⟨none, .store 84 (.tmp 6) (.tmp 15), _, _, _, _⟩) rfl (.tmp 6) (.tmp 15) 84 rfl 16 Tryz.sizeOf84 _ ?_ ?_ vs ?_ hvl.out hvo.out ?_); rfl; rfl; rfl)
          | ((with_reducible refine wp_loadAgg (o := ⟨some 17, _, _, _, _, _⟩) rfl (.tmp 6) 84 rfl 16 Tryz.isAgg84 Tryz.sizeOf84 wr.heap.size 0 ?_ vs hvl.out C2.out ?_); rfl))
        refine FN.out.mono ?_
        rintro e w3 ⟨rfl, b3⟩
        have HB4 := Lib.hid (HR.out.trans (b3.mono HR.out.size))
        clear b3
        cases hsm : f ds with
        | true =>
          have HE := Lib.hid (all_take_succ HX.out HT.out hsm)
          clear hsm
          go_wp2_with fail
          go_roundw
          case rel => exact ⟨k + 1, by omega, by go_num, HE.out, HB4.out⟩
          case measure => simp [intOf]; omega
        | false =>
          have HE := Lib.hid (okAll_bad HX.out hsm)
          clear hsm
          go_wp2_with fail
          go_ret
          exact ⟨by rw [HE.out]; rfl, HB4.out⟩
      · obtain rfl : k = len := by omega
        have HE := Lib.hid (okAll_good (l := l) (f := f) (by rw [HL.out]; omega) (by rw [HL.out]; exact HT.out))
        go_wp2_with fail
        go_ret
        exact ⟨by rw [HE.out]; rfl, HB.out⟩
end Go.Proofs.YtciijpahjjoppaaGreat
end
