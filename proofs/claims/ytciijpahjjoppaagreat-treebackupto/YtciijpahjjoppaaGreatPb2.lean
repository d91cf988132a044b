/-
  Texts of this proof, put together.
-/
import Derived.Test.YtciijpahjjoppaaGreatPb1
import Derived.RangeFuncNested
import Derived.RangeFuncBound
import Derived.RangeFuncCalls
import Derived.RangeFuncLeaves
import Derived.RangeFuncWrites
import Derived.RangeFuncBox
import Derived.Shelf.Abstract
import Derived.Shelf.RegionOpen
import Derived.OwnWalkIn
import Derived.TacticsInMore
import Derived.LoopNIn
import Derived.LoopIn
import Derived.Maps.OwnIn
import Derived.Maps.AppendAt
import Derived.Maps.OwnSet
import Derived.Laws.AppendOwn
import Derived.Maps.Views
import Derived.Laws.Cover3
import Derived.Laws.MakeOwn
section
namespace Go.Proofs.YtciijpahjjoppaaGreat
open Go.RowKit Go.Deep

/-- What Cut leaves. -/
def CutPost (s : ByteArray) (w : World) (e : Ending) (w' : World) : Prop := ∃ p r m, e = .returned (.tuple #[.string p, .string r, .bool m]) ∧ (∃ n, w' = w.drewN n) ∧ ((m = false ∧ parts s = [p]) ∨ (m = true ∧ parts s = p :: parts r ∧ r.size < s.size))
theorem ext_take (s : ByteArray) (k : Nat) : (s.extract 0 k).data.toList = s.data.toList.take k := by
  simp [ByteArray.data_extract, Array.toList_extract, List.extract_eq_take_drop]
theorem ext_drop (s : ByteArray) (k : Nat) : (s.extract k s.size).data.toList = s.data.toList.drop k := by
  simp only [ByteArray.data_extract, Array.toList_extract, List.extract_eq_take_drop]
  rw [List.take_of_length_le (by simp)]
theorem ba_take (s : ByteArray) (i : Nat) : s.extract 0 i = ba (s.data.toList.take i) := by
  rw [← ext_take, ba_data]
theorem ba_drop (s : ByteArray) (i : Nat) : s.extract i s.size = ba (s.data.toList.drop i) := by
  rw [← ext_drop, ba_data]
theorem cutPost_hit (s : ByteArray) (i n : Nat) (w : World) (h : Lib.indexByte s.data.toList 36 = i) : CutPost s w (.returned (.tuple #[.string (s.extract 0 i), .string (s.extract (i + 1) s.size), .bool true])) (w.drewN n) := by
  obtain ⟨h1, h2⟩ := splitD_hit _ i h
  refine ⟨_, _, true, rfl, ⟨n, rfl⟩, .inr ⟨rfl, ?_, ?_⟩⟩
  · unfold parts
    rw [h2, ba_take, ba_drop, ba_list]
    rfl
  · rw [ba_drop, ba_size, List.length_drop]
    have h3 : i < s.size := h1
    show s.size - (i + 1) < s.size
    omega
theorem cutPost_miss (s : ByteArray) (w : World) (h : Lib.indexByte s.data.toList 36 = -1) : CutPost s w (.returned (.tuple #[.string s, .string ⟨#[]⟩, .bool false])) w := by
  refine ⟨s, _, false, rfl, ⟨0, rfl⟩, .inl ⟨rfl, ?_⟩⟩
  unfold parts
  rw [splitD_miss _ h]
  simp [ba_data]
set_option maxRecDepth 100000 in
set_option maxHeartbeats 1000000 in
theorem cutLite_any (s : ByteArray) (w : World) (hs : s.size ≤ maxLen) : Calls Tryz.prog 154 #[.string s, .string ⟨#[36]⟩] w (CutPost s w) := by
  unfold maxLen at hs
  by_cases hm : Lib.indexByte s.data.toList 36 = -1
  · have HM := Lib.hid hm
    clear hm
    go_enter Tryz.func154, Tryz.ntmps154
    go_wp2_with fail
    refine (index_D s _).mono ?_
    rw [HM.out]
    rintro e w' ⟨rfl, rfl⟩
    go_wp2_with fail
    go_ret3
    exact cutPost_miss s _ HM.out
  · obtain ⟨i, hi⟩ := Int.eq_ofNat_of_zero_le (show 0 ≤ Lib.indexByte s.data.toList 36 by have := Lib.indexByte_ge s.data.toList 36; omega)
    have HI := Lib.hid hi
    have hlt : i < s.size := (splitD_hit _ i hi).1
    have c1 : (0 : Int) ≤ ↑i := by omega
    have c2 : (↑i : Int) ≤ ↑s.size := by omega
    have c3 : (0 : Int) ≤ ↑i + 1 := by omega
    have c4 : (↑i + 1 : Int) ≤ ↑s.size := by omega
    clear hi hm
    go_enter Tryz.func154, Tryz.ntmps154
    go_wp2_with fail
    refine (index_D s _).mono ?_
    rw [HI.out]
    rintro e w' ⟨rfl, rfl⟩
    go_wp2_with fail
    go_region
    go_wp2_with fail
    go_ret3
    exact cutPost_hit s i _ _ HI.out
set_option maxRecDepth 100000 in
set_option maxHeartbeats 1000000 in
theorem cut_any (s : ByteArray) (w : World) (hs : s.size ≤ maxLen) : Calls Tryz.prog 141 #[.string s, .string ⟨#[36]⟩] w (CutPost s w) := by
  go_enter Tryz.func141, Tryz.ntmps141
  go_wp2_with fail
  refine (cutLite_any s _ hs).mono ?_
  rintro e w' ⟨p, r, m, rfl, ⟨n, rfl⟩, h⟩
  have H := Lib.hid h
  clear h
  go_wp2_with fail
  go_ret3
  exact ⟨p, r, m, rfl, ⟨n, rfl⟩, H.out⟩
end Go.Proofs.YtciijpahjjoppaaGreat
end
section
namespace Go.Proofs.YtciijpahjjoppaaGreat
open Go.RowKit Go.Shelf Go.Deep
attribute [local go_sem] Oper.semAt_some

abbrev Tx (M : Nat) := { b : ByteArray // b.size ≤ M }
theorem grown_drewN (w : World) (q : Nat) : w.grownBy (w.drewN q) none := ⟨rfl, rfl, rfl, Nat.le_refl _, fun _ _ _ => rfl⟩
def leftOf : Value → Value → Nat
  | .string x, .bool true => x.size + 1
  | _, _ => 0

set_option maxRecDepth 100000 in
set_option maxHeartbeats 2000000 in
theorem parts_stops (M : Nat) (hM : M ≤ maxLen) (n : Nat) (hn : 1 ≤ n) (Bn : Nat) (s : ByteArray) (hs : s.size ≤ M) (Kp : World → World → Prop) (w : World) (hBn : w.cell? ⟨Bn, 0, none⟩ = some (.string s)) :
    SeqStopsK Fence.wide n Tryz.prog 140 #[.pointer (some ⟨Bn, 0, none⟩)] (fun x : Tx M => #[.string x.1]) Kp (fun xs => xs.map (·.1) = parts s) (fun pre => pre.map (·.1) <+: parts s) (parts s).length w := fun l J Jx W hW hJ _ hY h0 => by
  have hc : W.cell? ⟨Bn, 0, none⟩ = some (.string s) := by
    have hlt : Bn < w.heap.size := block_lt_of_cell hBn
    rw [hW.cell (p := ⟨Bn, 0, none⟩) hlt]
    exact hBn
  have HY := Lib.hid hY
  have HJ := Lib.hid hJ
  clear hY hJ hW hBn
  refine callsIn_of_wp Tryz.func140 rfl trivial ?_ rfl
  simp only [Tryz.ntmps140, List.size_toArray, List.length_cons, List.length_nil, Nat.reduceAdd, Nat.reduceSub, Array.replicate_succ, Array.replicate_zero, List.push_toArray, List.append_toArray, List.nil_append, List.cons_append]
  gi_wp2
  gi_loopw [3, 4] (fun p m wr => ∃ (pre : List (Tx M)) (left : ByteArray) (more : Bool), p = .string left ∧ m = .bool more ∧ (more = true → left.size ≤ M) ∧ J pre wr ∧ parts s = pre.map (·.1) ++ (if more then parts left else []))
    (fun p m _ => leftOf p m)
  case atStart =>
    exact ⟨[], s, true, rfl, rfl, fun _ => hs, h0, by simp⟩
  case round =>
    obtain ⟨pre, left, more, rfl, rfl, hl0, hJs, hp⟩ := hrel
    have HP := Lib.hid hp
    clear hp
    cases more with
    | false =>
      gi_wp2
      go_end0
      exact ⟨⟨_, rfl⟩, .inl ⟨pre, by simpa using HP.out.symm, hJs⟩⟩
    | true =>
      have hl := hl0 rfl
      clear hl0
      have hne : pre.length < (parts s).length := by
        rw [HP.out, List.length_append, List.length_map]
        have := List.length_pos_iff.2 (parts_ne left)
        simpa using this
      gi_wp2_with (refine ⟨trivial, ?_⟩; gi_at_call 141; refine (callsIn_wide.2 (cut_any left _ (Nat.le_trans hl hM))).mono ?_)
      rintro e w' ⟨p, r, m, rfl, ⟨q, rfl⟩, hcut⟩
      have hpl : p.size ≤ M := by
        have h1 : p ∈ parts left := by rcases hcut with ⟨_, h⟩ | ⟨_, h, _⟩ <;> simp [h]
        exact Nat.le_trans (parts_mem left p h1) hl
      have hrl : m = true → r.size ≤ M ∧ r.size < left.size := by
        rintro rfl
        rcases hcut with ⟨h, _⟩ | ⟨_, _, h⟩
        · cases h
        · exact ⟨by omega, h⟩
      have hnx : parts s = (pre ++ [(⟨p, hpl⟩ : Tx M)]).map (·.1) ++ (if m then parts r else []) := by
        rw [HP.out]
        rcases hcut with ⟨rfl, h⟩ | ⟨rfl, h, _⟩ <;> simp [h]
      have HR := Lib.hid hrl
      have HN := Lib.hid hnx
      clear hcut hrl hnx
      have hJ2 : J pre (wr.drewN q) := HJ.out pre wr _ none hJs (grown_drewN wr q) (by simp)
      obtain ⟨fn, tmps, assign, body, hy, hR⟩ := HY.out pre ⟨p, hpl⟩ (wr.drewN q) hJ2 hne
      dsimp only at hy
      gi_wp2
      refine hR.mono ?_
      rintro e W3 (⟨rfl, hJ3, _⟩ | ⟨rfl, hJx3⟩)
      · clear hy hR
        gi_wp2
        go_roundw
        case rel =>
          exact ⟨pre ++ [⟨p, hpl⟩], r, m, rfl, rfl, fun h => (HR.out h).1, hJ3, HN.out⟩
        case measure => cases m <;> simp [leftOf]; exact (HR.out rfl).2
      · gi_wp2
        refine bodyPost_ret (results_none rfl _ _ _) rfl ?_
        exact ⟨⟨_, rfl⟩, .inr ⟨pre ++ [⟨p, hpl⟩], ⟨_, HN.out.symm⟩, hJx3⟩⟩
end Go.Proofs.YtciijpahjjoppaaGreat
end
section
namespace Go.Proofs.YtciijpahjjoppaaGreat
open Go.RowKit Go.Shelf Go.Deep

/-- All blocks but those that are owned are as they were; what is owned behind is owned ahead, or new; from 'hi' on whatever is no cells is as it was. -/
structure Kept (O : World → Nat → Prop) (hi : Nat) (w w' : World) : Prop where
  os : w'.os = w.os
  tape : w'.tape = w.tape
  output : w'.output = w.output
  size : w.heap.size ≤ w'.heap.size
  block : ∀ b, b < w.heap.size → ¬ O w b → w'.heap[b]? = w.heap[b]?
  own : ∀ b, O w' b → O w b ∨ w.heap.size ≤ b
  others : ∀ (b : Nat) (o : Obj), hi ≤ b → w.heap[b]? = some o → o.isCells = false → w'.heap[b]? = some o
theorem Kept.refl (O : World → Nat → Prop) (hi : Nat) (w : World) : Kept O hi w w := ⟨rfl, rfl, rfl, Nat.le_refl _, fun _ _ _ => rfl, fun _ h => .inl h, fun _ _ _ h _ => h⟩
theorem Kept.trans {O : World → Nat → Prop} {hi : Nat} {a b c : World} (h : Kept O hi a b) (k : Kept O hi b c) : Kept O hi a c :=
  ⟨k.os.trans h.os, k.tape.trans h.tape, k.output.trans h.output, Nat.le_trans h.size k.size,
    fun i hi' ho => (k.block i (Nat.lt_of_lt_of_le hi' h.size) (fun e => by rcases h.own i e with e | e; exact ho e; omega)).trans (h.block i hi' ho),
    fun i e => by
      rcases k.own i e with e | e
      · exact h.own i e
      · exact .inr (Nat.le_trans h.size e),
    fun i o h1 h2 h3 => k.others i o h1 (h.others i o h1 h2 h3) h3⟩
theorem Kept.not_own {O : World → Nat → Prop} {hi : Nat} {w w' : World} (h : Kept O hi w w') {c : Nat} (hc : c < w.heap.size) (hn : ¬ O w c) : ¬ O w' c := fun e => by
  rcases h.own c e with e | e
  · exact hn e
  · omega

def lim : Nat := 8388608
structure Clo (σ : Type) (g : Nat) (c1 c2 : Value) where
  O : World → Nat → Prop
  low : Nat
  hi : Nat
  I : Nat → σ → World → Prop
  step : σ → ByteArray → σ
  out : σ → ByteArray → ByteArray
  ltO : ∀ {n s w b}, I n s w → O w b → low ≤ b ∧ b < w.heap.size
  cellsO : ∀ {n s w b}, I n s w → O w b → hi ≤ b → ∃ o : Obj, w.heap[b]? = some o ∧ o.isCells = true
  hiI : ∀ {n s w}, I n s w → low ≤ hi ∧ hi ≤ w.heap.size
  keep : ∀ {n s w w'}, I n s w → w.heap.size ≤ w'.heap.size → (∀ b, b < low → w'.heap[b]? = w.heap[b]?) → (∀ b, O w b → w'.heap[b]? = w.heap[b]?) → I n s w' ∧ ∀ b, O w' b → O w b
  down : ∀ {n s w}, I (n + 1) s w → I n s w
  outLe : ∀ {n s w x}, I (n + 1) s w → x.size ≤ lim → (out s x).size ≤ lim
  call : ∀ n s w x, I (n + 1) s w → x.size ≠ 0 → x.size ≤ lim → Calls Tryz.prog g #[.string x, c1, c2] w fun e w' => e = .returned (.string (out s x)) ∧ I n (step s x) w' ∧ Kept O hi w w'

section
variable {σ : Type} {g : Nat} {c1 c2 : Value} (C : Clo σ g c1 c2)
theorem Clo.downs {n m : Nat} {s : σ} {w : World} (h : C.I (n + m) s w) : C.I n s w := by
  induction m with
  | zero => exact h
  | succ m ih => exact ih (C.down h)
/-- A step that turns nothing that is owned, and nothing that lay. -/
theorem Clo.next {n : Nat} {s : σ} {w0 w w' : World} (hk : Kept C.O C.hi w0 w) (hI : C.I n s w) (h0 : C.low ≤ w0.heap.size) (hos : w'.os = w.os) (htape : w'.tape = w.tape) (hout : w'.output = w.output) (hsz : w.heap.size ≤ w'.heap.size)
    (hown : ∀ b, C.O w b → w'.heap[b]? = w.heap[b]?) (hold : ∀ b, b < w0.heap.size → w'.heap[b]? = w.heap[b]?) : Kept C.O C.hi w0 w' ∧ C.I n s w' := by
  obtain ⟨h1, h2⟩ := C.keep hI hsz (fun b hb => hold b (by omega)) hown
  refine ⟨⟨hos.trans hk.os, htape.trans hk.tape, hout.trans hk.output, Nat.le_trans hk.size hsz, fun b hb ho => (hold b hb).trans (hk.block b hb ho), fun b e => hk.own b (h2 b e), fun b o hb he hc => ?_⟩, h1⟩
  have hlt : b < w0.heap.size := heap_lt he
  rw [hold b hlt]
  exact hk.others b o hb he hc
theorem Clo.below {n : Nat} {s : σ} {w0 w w' : World} (hk : Kept C.O C.hi w0 w) (hI : C.I n s w) (h0 : C.low ≤ w0.heap.size) (hb : Below w.heap.size w w') : Kept C.O C.hi w0 w' ∧ C.I n s w' :=
  C.next hk hI h0 hb.os hb.tape hb.output hb.size (fun b h => hb.block b (C.ltO hI h).2) (fun b h => hb.block b (Nat.lt_of_lt_of_le h hk.size))
/-- A part, and what comes behind it. -/
def Clo.pt (s : σ) (x : ByteArray) : ByteArray × σ := if x.size = 0 then (x, s) else (C.out s x, C.step s x)
def Clo.pts : σ → List ByteArray → List ByteArray × σ
  | s, [] => ([], s)
  | s, x :: l => ((C.pt s x).1 :: (Clo.pts (C.pt s x).2 l).1, (Clo.pts (C.pt s x).2 l).2)
theorem Clo.pts_snoc (s : σ) (l : List ByteArray) (x : ByteArray) : C.pts s (l ++ [x]) = ((C.pts s l).1 ++ [(C.pt (C.pts s l).2 x).1], (C.pt (C.pts s l).2 x).2) := by
  induction l generalizing s with
  | nil => rfl
  | cons y l ih => simp [Clo.pts, ih]
theorem Clo.pts_len (s : σ) (l : List ByteArray) : (C.pts s l).1.length = l.length := by
  induction l generalizing s with
  | nil => rfl
  | cons y l ih => simp [Clo.pts, ih]
end
/-- What a name becomes. -/
def joinD (l : List ByteArray) : ByteArray := ⟨(Lib.join (l.map (·.data.toList)) [36]).toArray⟩
def Clo.nm {σ : Type} {g : Nat} {c1 c2 : Value} (C : Clo σ g c1 c2) (s : σ) (x : ByteArray) : ByteArray × σ := (joinD (C.pts s (parts x)).1, (C.pts s (parts x)).2)
theorem join_len (l : List (List UInt8)) (m : Nat) (h : ∀ x ∈ l, x.length ≤ m) : (Lib.join l [36]).length ≤ l.length * (m + 1) := by
  cases l with
  | nil => simp [Lib.join_nil]
  | cons x r =>
    rw [Lib.join_cons, List.length_append]
    have hx := h x (by simp)
    have ht : (Lib.joinTail [36] r).length ≤ r.length * (m + 1) := by
      have hr : ∀ y ∈ r, y.length ≤ m := fun y hy => h y (by simp [hy])
      clear h hx
      unfold Lib.joinTail
      induction r with
      | nil => simp
      | cons y r ih =>
        have h1 := hr y (by simp)
        have h2 := ih fun z hz => hr z (by simp [hz])
        simp only [List.map_cons, List.flatten_cons, List.length_append, List.length_cons, List.length_nil, Nat.add_mul] at h2 ⊢
        omega
    simp only [List.length_cons, Nat.add_mul] at ht ⊢
    omega
theorem Clo.pts_le {σ : Type} {g : Nat} {c1 c2 : Value} (C : Clo σ g c1 c2) {n : Nat} {s : σ} {x : ByteArray} {w : World} (hI : C.I (n + 1) s w) (hx : x.size ≤ lim) : (C.pt s x).1.size ≤ lim := by
  unfold Clo.pt
  split
  · exact hx
  · exact C.outLe hI hx
end Go.Proofs.YtciijpahjjoppaaGreat
end
section
namespace Go.Proofs.YtciijpahjjoppaaGreat
open Go.RowKit Go.Shelf Go.Deep
attribute [local go_sem] Oper.semAt_some

section
variable {σ : Type} {g : Nat} {c1 c2 : Value}
structure NmJ (C : Clo σ g c1 c2) (k : Nat) (w : World) (ys : List ByteArray) (st : σ) (W : World) : Prop where
  i : C.I k st W
  bt : Boxed W w.heap.size 97 (.func (.func g) #[] #[c1, c2])
  row : ∃ v, Boxed W (w.heap.size + 1) 29 v ∧ W.ownsRow (w.heap.size + 1) 9 1 v ys.length (ys.map Value.string) ∧ (∀ b, v.ownBlock = some b → ¬ C.O W b)
  nt : ¬ C.O W w.heap.size
  nl : ¬ C.O W (w.heap.size + 1)
  kept : Kept C.O C.hi w W
  low : C.low ≤ w.heap.size
  his : C.hi ≤ w.heap.size
  sz : w.heap.size + 3 ≤ W.heap.size
  small : ∀ y ∈ ys, y.size ≤ lim
theorem rowBlock {w : World} {base e sz : Nat} {v : Value} {n : Nat} {xs : List Value} (h : w.ownsRow base e sz v n xs) {b : Nat} (hb : v.ownBlock = some b) : base ≤ b ∧ b < w.heap.size ∧ ∃ cs t fz, w.heap[b]? = some (.cells cs t fz) := by
  rcases h.2 with ⟨rfl, _⟩ | ⟨q, cap, cur, rfl, h1, h2, _⟩
  · simp [Value.ownBlock] at hb
  · obtain rfl : q = b := by simpa [Value.ownBlock] using hb
    exact ⟨h1, heap_lt h2, _, _, _, h2⟩
theorem ownsRow_same {w w' : World} {base e sz : Nat} {v : Value} {n : Nat} {xs : List Value} (h : w.ownsRow base e sz v n xs) (hb : ∀ b, v.ownBlock = some b → w'.heap[b]? = w.heap[b]?) : w'.ownsRow base e sz v n xs := by
  refine ⟨h.1, ?_⟩
  rcases h.2 with h4 | ⟨q, cap, cur, hv, hb', hg, r⟩
  · exact .inl h4
  · exact .inr ⟨q, cap, cur, hv, hb', (hb q (by rw [hv]; rfl)).trans hg, r⟩
/-- A step that turns none of these blocks. -/
theorem NmJ.same {C : Clo σ g c1 c2} {k : Nat} {w : World} {ys : List ByteArray} {st : σ} {W W' : World} (h : NmJ C k w ys st W) (hg : ∃ row, W.grownBy W' row ∧ ∀ r, row = some r → w.heap.size + 3 ≤ r ∧ ∃ o : Obj, W.heap[r]? = some o ∧ o.isCells = false) : NmJ C k w ys st W' := by
  obtain ⟨row, hg, hr⟩ := hg
  have cells : ∀ (b : Nat) (cs : Array Value) (t : TypeId) (fz : Nat × Nat), W.heap[b]? = some (.cells cs t fz) → W'.heap[b]? = W.heap[b]? := fun b cs t fz hb => hg.block b (heap_lt hb) fun e => by
    obtain ⟨_, o, ho, hc⟩ := hr b e.symm
    rw [hb] at ho
    cases ho
    cases hc
  have low : ∀ b, b < w.heap.size → W'.heap[b]? = W.heap[b]? := fun b hb => hg.block b (by have := h.sz; omega) fun e => by have := (hr b e.symm).1; omega
  have own : ∀ b, C.O W b → W'.heap[b]? = W.heap[b]? := fun b hb => by
    rcases Nat.lt_or_ge b C.hi with h1 | h1
    · exact low b (by have := h.his; omega)
    · obtain ⟨o, ho, hc⟩ := C.cellsO h.i hb h1
      cases o with
      | cells cs t fz => exact cells b cs t fz ho
      | _ => cases hc
  obtain ⟨k1, k2⟩ := C.keep h.i hg.size (fun b hb => low b (by have := h.low; omega)) own
  obtain ⟨v, h1, h2, h3⟩ := h.row
  exact ⟨k1, (cells _ _ _ _ h.bt).trans h.bt, ⟨v, (cells _ _ _ _ h1).trans h1, ownsRow_same h2 fun b hb => by obtain ⟨_, _, cs, t, fz, e⟩ := rowBlock h2 hb; exact cells b cs t fz e, fun b hb e => h3 b hb (k2 b e)⟩, fun e => h.nt (k2 _ e), fun e => h.nl (k2 _ e),
    (C.next h.kept h.i h.low hg.os hg.tape hg.output hg.size own (fun b hb => low b hb)).1, h.low, h.his, Nat.le_trans h.sz hg.size, h.small⟩
theorem NmJ.called {C : Clo σ g c1 c2} {k k' : Nat} {w : World} {ys : List ByteArray} {st st' : σ} {W W' : World} (h : NmJ C k w ys st W) (hk : Kept C.O C.hi W W') (hi : C.I k' st' W') : NmJ C k' w ys st' W' := by
  obtain ⟨v, h1, h2, h3⟩ := h.row
  have hz := h.sz
  exact ⟨hi, (hk.block _ (by omega) h.nt).trans h.bt, ⟨v, (hk.block _ (by omega) h.nl).trans h1, ownsRow_same h2 fun b hb => hk.block b (rowBlock h2 hb).2.1 (h3 b hb), fun b hb => hk.not_own (rowBlock h2 hb).2.1 (h3 b hb)⟩, hk.not_own (by omega) h.nt, hk.not_own (by omega) h.nl, h.kept.trans hk, h.low, h.his, Nat.le_trans hz hk.size, h.small⟩
theorem NmJ.down {C : Clo σ g c1 c2} {k : Nat} {w : World} {ys : List ByteArray} {st : σ} {W : World} (h : NmJ C (k + 1) w ys st W) : NmJ C k w ys st W :=
  ⟨C.down h.i, h.bt, h.row, h.nt, h.nl, h.kept, h.low, h.his, h.sz, h.small⟩
theorem NmJ.appended {C : Clo σ g c1 c2} {k : Nat} {w : World} {ys : List ByteArray} {st : σ} {W w1 : World} {v v' : Value} {y : ByteArray} {tmp : Obj} (h : NmJ C k w ys st W)
    (hno : ∀ b, v.ownBlock = some b → w.heap.size + 1 ≤ b ∧ ¬ C.O W b) (hy : y.size ≤ lim)
    (hg : (W.alloc tmp).grownBy w1 v.ownBlock) (hat : v'.ownBlock = v.ownBlock ∨ v'.ownBlock = some (W.alloc tmp).heap.size)
    (hb2 : Boxed (w1.setCell ⟨w.heap.size + 1, 0, none⟩ v') (w.heap.size + 1) 29 v') (hr2 : (w1.setCell ⟨w.heap.size + 1, 0, none⟩ v').ownsRow (w.heap.size + 1) 9 1 v' (ys ++ [y]).length ((ys ++ [y]).map Value.string)) :
    NmJ C k w (ys ++ [y]) st (w1.setCell ⟨w.heap.size + 1, 0, none⟩ v') := by
  have hz := h.sz
  have hlt := fun b (hb : C.O W b) => C.ltO h.i hb
  have hs := grownBy_setCell' w1 (w.heap.size + 1) v'
  have al : ∀ b, b < W.heap.size → (W.alloc tmp).heap[b]? = W.heap[b]? := fun b hb => ((Below.refl W.heap.size W).alloc (Nat.le_refl _) tmp).block b hb
  have blk : ∀ b, b < W.heap.size → some b ≠ v.ownBlock → b ≠ w.heap.size + 1 → (w1.setCell ⟨w.heap.size + 1, 0, none⟩ v').heap[b]? = W.heap[b]? := fun b h1 h2 h3 => by
    have h4 : b < (W.alloc tmp).heap.size := by simp; omega
    rw [hs.block b (Nat.lt_of_lt_of_le h4 hg.size) (fun e => h3 (by simpa using e)), hg.block b h4 h2, al b h1]
  have own : ∀ b, C.O W b → (w1.setCell ⟨w.heap.size + 1, 0, none⟩ v').heap[b]? = W.heap[b]? := fun b hb => blk b (hlt b hb).2 (fun e => (hno b e.symm).2 hb) (fun e => h.nl (e ▸ hb))
  have old : ∀ b, b < w.heap.size → (w1.setCell ⟨w.heap.size + 1, 0, none⟩ v').heap[b]? = W.heap[b]? := fun b hb => blk b (by omega) (fun e => by have := (hno b e.symm).1; omega) (by omega)
  have hsz : W.heap.size ≤ (w1.setCell ⟨w.heap.size + 1, 0, none⟩ v').heap.size := Nat.le_trans (Nat.le_trans (by simp) hg.size) hs.size
  obtain ⟨k1, k2⟩ := C.keep h.i hsz (fun b hb => old b (by have := h.low; omega)) own
  have al' := (Below.refl W.heap.size W).alloc (Nat.le_refl _) tmp
  refine ⟨k1, (blk _ (by omega) (fun e => by have := (hno _ e.symm).1; omega) (by omega)).trans h.bt, ⟨v', hb2, hr2, fun b hb e => ?_⟩, fun e => h.nt (k2 _ e), fun e => h.nl (k2 _ e),
    (C.next h.kept h.i h.low (hs.os.trans (hg.os.trans al'.os)) (hs.tape.trans (hg.tape.trans al'.tape)) (hs.output.trans (hg.output.trans al'.output)) hsz own old).1, h.low, h.his, Nat.le_trans hz hsz, fun z hz' => ?_⟩
  · have e' := k2 b e
    rcases hat with e1 | e1
    · exact (hno b (e1 ▸ hb)).2 e'
    · rw [e1] at hb
      have := (hlt b e').2
      simp at hb
      omega
  · rcases List.mem_append.1 hz' with h1 | h1
    · exact h.small z h1
    · rw [List.mem_singleton.1 h1]; exact hy
end
theorem partsF_any (s : ByteArray) (w : World) : Calls Tryz.prog 121 #[.string s] w fun e w' => e = .returned (.func (.func 140) #[] #[.pointer (some ⟨w.heap.size, 0, none⟩)]) ∧ w' = w.alloc (.cells #[.string s] 9) := by
  go_enter Tryz.func121, Tryz.ntmps121
  go_wp2_with fail
  go_ret
  exact ⟨rfl, rfl⟩
theorem info9 : (Tryz.prog.info? 9).map (fun i => (i.zero, i.size, i.bytes)) = some (some (.string ⟨#[]⟩), 1, 16) := by kernel_rfl
def NmI {σ : Type} {g : Nat} {c1 c2 : Value} (C : Clo σ g c1 c2) (n : Nat) (st : σ) (s : ByteArray) (w : World) (pre : List (Tx lim)) (W : World) : Prop :=
  pre.length ≤ (parts s).length ∧ NmJ C (n + ((parts s).length - pre.length)) w (C.pts st (pre.map fun x => x.1)).1 (C.pts st (pre.map fun x => x.1)).2 W
/-- What turner.name leaves. -/
def NmPost {σ : Type} {g : Nat} {c1 c2 : Value} (C : Clo σ g c1 c2) (n : Nat) (st : σ) (s : ByteArray) (w : World) (e : Ending) (w' : World) : Prop := e = .returned (.string (C.nm st s).1) ∧ C.I n (C.nm st s).2 w' ∧ Kept C.O C.hi w w'
end Go.Proofs.YtciijpahjjoppaaGreat
end
section
namespace Go.Proofs.YtciijpahjjoppaaGreat
open Go.RowKit Go.Shelf Go.Deep
attribute [local go_sem] Oper.semAt_some

set_option maxRecDepth 100000 in
set_option maxHeartbeats 4000000 in
theorem name_50 {σ : Type} {c1 c2 : Value} (C : Clo σ 50 c1 c2) (n : Nat) (st : σ) (s : ByteArray) (w : World) (hI : C.I (n + (parts s).length) st w) (hs : s.size ≤ lim) :
    Calls Tryz.prog 86 #[.agg #[.func (.func 50) #[] #[c1, c2]], .string s] w (NmPost C n st s w) := by
  obtain ⟨i0, hi, hz0, hz1, hz2⟩ := info_parts info9
  have hlow : C.low ≤ w.heap.size := Nat.le_trans (C.hiI hI).1 (C.hiI hI).2
  have hhi : C.hi ≤ w.heap.size := (C.hiI hI).2
  have hL : (parts s).length ≤ 8388609 := by have := parts_len s; unfold lim at hs; omega
  have hM : lim ≤ maxLen := by decide
  obtain ⟨W0, hW0⟩ : ∃ W0, W0 = ((w.alloc (.cells #[.func (.func 50) #[] #[c1, c2]] 97)).alloc (.cells #[.slice none 0 0] 29)).alloc (.cells #[.string s] 9) := ⟨_, rfl⟩
  have z1 : (w.alloc (.cells #[.func (.func 50) #[] #[c1, c2]] 97)).heap.size = w.heap.size + 1 := by simp
  have z2 : ((w.alloc (.cells #[.func (.func 50) #[] #[c1, c2]] 97)).alloc (.cells #[.slice none 0 0] 29)).heap.size = w.heap.size + 2 := by simp
  have b0 : Below w.heap.size w W0 := by rw [hW0]; exact (((Below.refl _ w).alloc (Nat.le_refl _) _).alloc (by simp) _).alloc (by simp; omega) _
  have q0 : W0.heap.size = w.heap.size + 3 := by rw [hW0]; simp
  have bT : Boxed W0 w.heap.size 97 (.func (.func 50) #[] #[c1, c2]) := by rw [hW0]; exact ((Boxed.new w 97 _).alloc _).alloc _
  have bL : Boxed W0 (w.heap.size + 1) 29 (.slice none 0 0) := by
    have := (Boxed.new (w.alloc (.cells #[.func (.func 50) #[] #[c1, c2]] 97)) 29 (.slice none 0 0)).alloc (.cells #[.string s] 9)
    rw [z1] at this
    rw [hW0]
    exact this
  have bS : Boxed W0 (w.heap.size + 2) 9 (.string s) := by
    have := Boxed.new ((w.alloc (.cells #[.func (.func 50) #[] #[c1, c2]] 97)).alloc (.cells #[.slice none 0 0] 29)) 9 (.string s)
    rw [z2] at this
    rw [hW0]
    exact this
  obtain ⟨k0, i00⟩ := C.below (Kept.refl C.O C.hi w) hI hlow b0
  have no : ∀ b, w.heap.size ≤ b → ¬ C.O W0 b := fun b hb e => by
    rcases k0.own b e with e | _
    · have := (C.ltO hI e).2; omega
    · obtain ⟨_, h2⟩ := C.keep hI b0.size (fun b hb => b0.block b (by omega)) (fun b hb => b0.block b (C.ltO hI hb).2)
      have := (C.ltO hI (h2 b e)).2
      omega
  have J0 : NmJ C (n + (parts s).length) w [] st W0 := ⟨i00, bT, ⟨_, bL, World.ownsRow_nil _ _ _ _, fun b hb => by simp [Value.ownBlock] at hb⟩, no _ (Nat.le_refl _), no _ (by omega), k0, hlow, hhi, by omega, by simp⟩
  have HJ0 := Lib.hid J0
  clear J0 no k0 i00 bT bL z1 z2 hI
  refine (callsIn_wide (n := 3)).1 ?_
  refine callsIn_of_wp_marks Tryz.func86 rfl trivial ?_ rfl
  simp only [Tryz.ntmps86, List.size_toArray, List.length_cons, List.length_nil, Nat.reduceAdd, Nat.reduceSub, Array.replicate_succ, Array.replicate_zero, List.push_toArray, List.append_toArray, List.nil_append, List.cons_append]
  gi_wp2_with (refine ⟨trivial, ?_⟩; gi_at_call 121; refine (callsIn_wide.2 (partsF_any s _)).mono ?_; rintro e w' ⟨rfl, rfl⟩)
  rw [← hW0]
  refine wpIn_rangeFunc_ownG rfl (by omega) (gf := 140) (lb := #[.pointer (some ⟨w.heap.size + 2, 0, none⟩)]) rfl trivial (enters_of Tryz.func140 (by kernel_rfl) rfl)
    (parts_stops lim hM _ (by omega) (w.heap.size + 2) s hs (fun _ _ => True) W0 bS.cell) (fun _ _ => trivial) (fun _ _ _ _ _ _ _ _ => trivial) (Below.refl _ _) (fun _ => rfl)
    (NmI C n st s w)
    (fun _ _ _ => False)
    (fun (pre : List (Tx lim)) A B row hsx hg hr => ⟨hsx.1, hsx.2.same ⟨row, hg, fun r e => ⟨by have := (hr r e).1; omega, (hr r e).2⟩⟩⟩)
    (fun _ _ _ _ _ hs _ _ => hs)
    ⟨Nat.zero_le _, HJ0.out⟩
    (fun x => { tmps := #[.agg #[.func (.func 50) #[] #[c1, c2]], .string s, .pointer (some ⟨w.heap.size, 0, none⟩), undef, .string ⟨#[]⟩, .pointer (some ⟨w.heap.size + 1, 0, none⟩), .string x.1, .string s, .func (.func 140) #[] #[.pointer (some ⟨w.heap.size + 2, 0, none⟩)], .string x.1, undef, undef, undef, undef, undef, undef, undef, undef, undef, undef, undef, undef], defers := [] }) ?assign ?body ?done ?stop
  case assign =>
    intro l x W K hK
    gi_wp2
    exact hK
  case body =>
    rintro l pre x W ⟨hpl, hJ⟩ hlt
    have hkf : ∀ A B, Kept C.O C.hi A B → KeepsFrom W0.heap.size A B := fun A B h => ⟨h.size, fun b o h1 h2 h3 => h.others b o (by omega) h2 h3⟩
    have HKF := Lib.hid hkf
    have bt := hJ.bt.cell
    have hlen : (C.pts st (pre.map fun x => x.1)).1.length = pre.length := by rw [C.pts_len, List.length_map]
    have hsn := C.pts_snoc st (pre.map fun x => x.1) x.1
    have hbud : n + ((parts s).length - pre.length) = n + ((parts s).length - (pre.length + 1)) + 1 := by omega
    rw [hbud] at hJ
    have HSN := Lib.hid hsn
    have HLEN := Lib.hid hlen
    have hxl := x.2
    clear hkf hsn hlen hbud
    generalize hys : (C.pts st (pre.map fun x => x.1)).1 = ys at *
    generalize hst : (C.pts st (pre.map fun x => x.1)).2 = s1 at *
    have HYS := Lib.hid hys
    have HST := Lib.hid hst
    clear hys hst
    generalize hB' : n + ((parts s).length - (pre.length + 1)) = bud at *
    have HBUD := Lib.hid hB'
    clear hB'
    have hle := Lib.hid (C.pts_le hJ.i hxl)
    by_cases hx0 : x.1.size = 0
    · have hpt : C.pt s1 x.1 = (x.1, s1) := by unfold Clo.pt; rw [if_pos hx0]
      have hxe : x.1.toList = [] := by rw [ba_empty _ hx0, ByteArray.toList_eq]
      have hxf : (!x.1.toList.isEmpty) = false := by rw [hxe]; rfl
      have HPT := Lib.hid hpt
      have HJ := Lib.hid hJ.down
      obtain ⟨v, hv, hrow, hno⟩ := hJ.row
      have hc := hv.cell
      have hsz := hJ.sz
      have HNO := Lib.hid (show ∀ b, v.ownBlock = some b → w.heap.size + 1 ≤ b ∧ ¬ C.O W b from fun b hb => ⟨(rowBlock hrow hb).1, hno b hb⟩)
      clear hpt hJ hno
      gi_wp2_with (gi_at_builtin; refine wpListIn_append_own_at _ rfl _ _ 29 rfl (w.heap.size + 1) 9 i0 (.string ⟨#[]⟩) 1 16 Tryz.underlying29 hi hz0 hz1 hz2 rfl (by decide) _ _ _ rfl (hrow.alloc _) ⟨W.heap.size, 0, none⟩ 1 1 [.string x.1] rfl rfl (cell_one_new _ _ _) (by simp [Value.oneCell']) (by rw [HLEN.out]; unfold maxLen; omega) (by rw [HLEN.out]; omega) (by simp; omega) ?_; intro v' w1 hown' hgrow _ hat; obtain ⟨g', cap', rfl⟩ := ownsRow_succ hown'; obtain ⟨hv1, hv2, hr2, hk2, hb2⟩ := hv.appended (by decide) hrow (by omega) (by omega) hown' hgrow; have hc1 := hv1.cell; have hf1 := hv1.frozen)
      refine ⟨hk2.from _, trivial, by simp; omega, ?_⟩
      rw [List.map_append, List.map_singleton, HSN.out, HPT.out, List.length_append, List.length_singleton, HBUD.out]
      exact HJ.out.appended HNO.out (by have := hle.out; rw [HPT.out] at this; exact this) hgrow hat hv2 (by simpa using hr2)
    · have hpt : C.pt s1 x.1 = (C.out s1 x.1, C.step s1 x.1) := by unfold Clo.pt; rw [if_neg hx0]
      have hxe : ¬ x.1.toList = [] := toList_ne _ (by omega)
      have hxf : (!x.1.toList.isEmpty) = true := by simpa using hxe
      have HPT := Lib.hid hpt
      have HJ := Lib.hid hJ
      have hcall := Lib.hid (C.call bud s1 W x.1 hJ.i hx0 hxl)
      clear hpt hJ
      gi_wp2_with (first
        | (refine ⟨trivial, ?_⟩; gi_at_call 50; refine (CallsIn.inRound l (callsIn_wide.2 hcall.out)).mono ?_; rintro e W2 ⟨rfl, hi2, hk2⟩; have HJ2 := Lib.hid (HJ.out.called hk2 hi2); have HKF2 := Lib.hid (HKF.out _ _ hk2); clear hi2 hk2; obtain ⟨v, hv, hrow, hno⟩ := HJ2.out.row; have hc := hv.cell; have hsz := HJ2.out.sz; have HNO := Lib.hid (show ∀ b, v.ownBlock = some b → w.heap.size + 1 ≤ b ∧ ¬ C.O W2 b from fun b hb => ⟨(rowBlock hrow hb).1, hno b hb⟩); clear hno bt)
        | (gi_at_builtin; refine wpListIn_append_own_at _ rfl _ _ 29 rfl (w.heap.size + 1) 9 i0 (.string ⟨#[]⟩) 1 16 Tryz.underlying29 hi hz0 hz1 hz2 rfl (by decide) _ _ _ rfl (hrow.alloc _) ⟨W2.heap.size, 0, none⟩ 1 1 [.string (C.out s1 x.1)] rfl rfl (cell_one_new _ _ _) (by simp [Value.oneCell']) (by rw [HLEN.out]; unfold maxLen; omega) (by rw [HLEN.out]; omega) (by simp; omega) ?_; intro v' w1 hown' hgrow _ hat; obtain ⟨g', cap', rfl⟩ := ownsRow_succ hown'; obtain ⟨hv1, hv2, hr2, hk2, hb2⟩ := hv.appended (by decide) hrow (by omega) (by omega) hown' hgrow; have hc1 := hv1.cell; have hf1 := hv1.frozen))
      refine ⟨HKF2.out.trans (hk2.from _), trivial, by simp; omega, ?_⟩
      rw [List.map_append, List.map_singleton, HSN.out, HPT.out, List.length_append, List.length_singleton, HBUD.out]
      exact HJ2.out.appended HNO.out (by have := hle.out; rw [HPT.out] at this; exact this) hgrow hat hv2 (by simpa using hr2)
  case done =>
    rintro D xs W hD hxs ⟨hpl, hJ⟩ hK
    rw [hxs] at hJ
    have hxl : xs.length = (parts s).length := by rw [← hxs, List.length_map]
    rw [hxl, Nat.sub_self, Nat.add_zero] at hJ
    obtain ⟨v, hv, hrow, hno⟩ := hJ.row
    have hc := hv.cell
    have hlen : (C.pts st (parts s)).1.length = (parts s).length := C.pts_len _ _
    have hpos : 0 < (C.pts st (parts s)).1.length := by rw [hlen]; exact List.length_pos_iff.2 (parts_ne s)
    have hall := hJ.small
    have HJ := Lib.hid hJ
    have HNM := Lib.hid (show C.nm st s = (joinD (C.pts st (parts s)).1, (C.pts st (parts s)).2) from rfl)
    generalize hys : (C.pts st (parts s)).1 = ys at *
    generalize hst : (C.pts st (parts s)).2 = s1 at *
    obtain ⟨gb, cap, cur, rfl, hgb, hgc, hcap, hcm, hcs, hct⟩ : ∃ gb cap cur, v = .slice (some ⟨gb, 0, none⟩) ys.length cap ∧ w.heap.size + 1 ≤ gb ∧ W.heap[gb]? = some (.cells cur 9 (0, 0)) ∧ ys.length ≤ cap ∧ cap ≤ maxLen ∧ cur.size = cap * 1 ∧ cur.toList.take (ys.length * 1) = ys.map Value.string := by
      rcases hrow.2 with ⟨_, h4⟩ | ⟨q, cap, cur, h1, h2, h3, h4, h5, h6, h7⟩
      · omega
      · exact ⟨q, cap, cur, h1, h2, h3, h4, h5, h6, h7⟩
    have hcells : ∀ (j : Nat) (x : ByteArray), ys[j]? = some x → W.cell? ⟨gb, 0 + j, none⟩ = some (.string x) := by
      intro j x hx
      have hj := (List.getElem?_eq_some_iff.1 hx).1
      have e1 : cur.toList[j]? = (ys.map Value.string)[j]? := by rw [← hct, List.getElem?_take]; simp [hj]
      have e2 : cur[j]? = some (.string x) := by
        rw [List.getElem?_map, hx] at e1
        simpa using e1
      rw [Nat.zero_add]
      simp [World.cell?, hgc, e2]
    have hjl : (Lib.join (ys.map (·.data.toList)) [36]).length ≤ 140737488355328 := by
      have h1 := join_len (ys.map (·.data.toList)) lim (fun z hz => by
        obtain ⟨y, hy, rfl⟩ := List.mem_map.1 hz
        exact hall y hy)
      rw [List.length_map] at h1
      have h2 : ys.length * (lim + 1) ≤ 8388609 * (lim + 1) := Nat.mul_le_mul_right _ (by omega)
      have h3 : 8388609 * (lim + 1) ≤ 140737488355328 := by decide
      omega
    have hjoin := Lib.hid (Tryz.strings_Join gb 0 cap ys ⟨#[36]⟩ W hcells (heap_lt hgc) (by omega) hcap hjl)
    clear hcells hjl hall hct hgc hrow hys hst hxs hlen
    gi_wp2_with (refine ⟨trivial, ?_⟩; gi_at_call 122; refine (callsIn_wide.2 hjoin.out).mono ?_; rintro e W3 ⟨rfl, b3⟩)
    obtain ⟨k3, i3⟩ := C.below HJ.out.kept HJ.out.i HJ.out.low b3
    have hK3 : W3.heap[D]? = some (.deferred (some [])) := (b3.block D (heap_lt hK)).trans hK
    have HK3 := Lib.hid k3
    have HI3 := Lib.hid i3
    clear k3 i3 b3
    gi_wp2
    refine ⟨by simp, .inl ⟨_, _, rfl, run_takeDeferred hK3, ?_⟩⟩
    refine ⟨_, results_tmp rfl _ _ _, ?_⟩
    have gD := grownBy_putObj' W3 D (.deferred none)
    have nD : ∀ b, C.O W3 b → b ≠ D := fun b hb e => by
      subst e
      obtain ⟨o, ho, hc⟩ := C.cellsO HI3.out hb (by omega)
      rw [hK3] at ho
      cases ho
      cases hc
    obtain ⟨k4, i4⟩ := C.next HK3.out HI3.out hlow gD.os gD.tape gD.output gD.size (fun b hb => gD.block b (C.ltO HI3.out hb).2 (fun e => nD b hb (by simpa using e))) (fun b hb => gD.block b (Nat.lt_of_lt_of_le hb HK3.out.size) (fun e => absurd (show b = D by simpa using e) (by omega)))
    refine ⟨by rw [HNM.out]; rfl, by rw [HNM.out]; exact i4, k4⟩
  case stop =>
    rintro D c pre W _ _ h _
    exact h.elim

set_option maxRecDepth 100000 in
set_option maxHeartbeats 4000000 in
theorem name_59 {σ : Type} {c1 c2 : Value} (C : Clo σ 59 c1 c2) (n : Nat) (st : σ) (s : ByteArray) (w : World) (hI : C.I (n + (parts s).length) st w) (hs : s.size ≤ lim) :
    Calls Tryz.prog 86 #[.agg #[.func (.func 59) #[] #[c1, c2]], .string s] w (NmPost C n st s w) := by
  obtain ⟨i0, hi, hz0, hz1, hz2⟩ := info_parts info9
  have hlow : C.low ≤ w.heap.size := Nat.le_trans (C.hiI hI).1 (C.hiI hI).2
  have hhi : C.hi ≤ w.heap.size := (C.hiI hI).2
  have hL : (parts s).length ≤ 8388609 := by have := parts_len s; unfold lim at hs; omega
  have hM : lim ≤ maxLen := by decide
  obtain ⟨W0, hW0⟩ : ∃ W0, W0 = ((w.alloc (.cells #[.func (.func 59) #[] #[c1, c2]] 97)).alloc (.cells #[.slice none 0 0] 29)).alloc (.cells #[.string s] 9) := ⟨_, rfl⟩
  have z1 : (w.alloc (.cells #[.func (.func 59) #[] #[c1, c2]] 97)).heap.size = w.heap.size + 1 := by simp
  have z2 : ((w.alloc (.cells #[.func (.func 59) #[] #[c1, c2]] 97)).alloc (.cells #[.slice none 0 0] 29)).heap.size = w.heap.size + 2 := by simp
  have b0 : Below w.heap.size w W0 := by rw [hW0]; exact (((Below.refl _ w).alloc (Nat.le_refl _) _).alloc (by simp) _).alloc (by simp; omega) _
  have q0 : W0.heap.size = w.heap.size + 3 := by rw [hW0]; simp
  have bT : Boxed W0 w.heap.size 97 (.func (.func 59) #[] #[c1, c2]) := by rw [hW0]; exact ((Boxed.new w 97 _).alloc _).alloc _
  have bL : Boxed W0 (w.heap.size + 1) 29 (.slice none 0 0) := by
    have := (Boxed.new (w.alloc (.cells #[.func (.func 59) #[] #[c1, c2]] 97)) 29 (.slice none 0 0)).alloc (.cells #[.string s] 9)
    rw [z1] at this
    rw [hW0]
    exact this
  have bS : Boxed W0 (w.heap.size + 2) 9 (.string s) := by
    have := Boxed.new ((w.alloc (.cells #[.func (.func 59) #[] #[c1, c2]] 97)).alloc (.cells #[.slice none 0 0] 29)) 9 (.string s)
    rw [z2] at this
    rw [hW0]
    exact this
  obtain ⟨k0, i00⟩ := C.below (Kept.refl C.O C.hi w) hI hlow b0
  have no : ∀ b, w.heap.size ≤ b → ¬ C.O W0 b := fun b hb e => by
    rcases k0.own b e with e | _
    · have := (C.ltO hI e).2; omega
    · obtain ⟨_, h2⟩ := C.keep hI b0.size (fun b hb => b0.block b (by omega)) (fun b hb => b0.block b (C.ltO hI hb).2)
      have := (C.ltO hI (h2 b e)).2
      omega
  have J0 : NmJ C (n + (parts s).length) w [] st W0 := ⟨i00, bT, ⟨_, bL, World.ownsRow_nil _ _ _ _, fun b hb => by simp [Value.ownBlock] at hb⟩, no _ (Nat.le_refl _), no _ (by omega), k0, hlow, hhi, by omega, by simp⟩
  have HJ0 := Lib.hid J0
  clear J0 no k0 i00 bT bL z1 z2 hI
  refine (callsIn_wide (n := 3)).1 ?_
  refine callsIn_of_wp_marks Tryz.func86 rfl trivial ?_ rfl
  simp only [Tryz.ntmps86, List.size_toArray, List.length_cons, List.length_nil, Nat.reduceAdd, Nat.reduceSub, Array.replicate_succ, Array.replicate_zero, List.push_toArray, List.append_toArray, List.nil_append, List.cons_append]
  gi_wp2_with (refine ⟨trivial, ?_⟩; gi_at_call 121; refine (callsIn_wide.2 (partsF_any s _)).mono ?_; rintro e w' ⟨rfl, rfl⟩)
  rw [← hW0]
  refine wpIn_rangeFunc_ownG rfl (by omega) (gf := 140) (lb := #[.pointer (some ⟨w.heap.size + 2, 0, none⟩)]) rfl trivial (enters_of Tryz.func140 (by kernel_rfl) rfl)
    (parts_stops lim hM _ (by omega) (w.heap.size + 2) s hs (fun _ _ => True) W0 bS.cell) (fun _ _ => trivial) (fun _ _ _ _ _ _ _ _ => trivial) (Below.refl _ _) (fun _ => rfl)
    (NmI C n st s w)
    (fun _ _ _ => False)
    (fun (pre : List (Tx lim)) A B row hsx hg hr => ⟨hsx.1, hsx.2.same ⟨row, hg, fun r e => ⟨by have := (hr r e).1; omega, (hr r e).2⟩⟩⟩)
    (fun _ _ _ _ _ hs _ _ => hs)
    ⟨Nat.zero_le _, HJ0.out⟩
    (fun x => { tmps := #[.agg #[.func (.func 59) #[] #[c1, c2]], .string s, .pointer (some ⟨w.heap.size, 0, none⟩), undef, .string ⟨#[]⟩, .pointer (some ⟨w.heap.size + 1, 0, none⟩), .string x.1, .string s, .func (.func 140) #[] #[.pointer (some ⟨w.heap.size + 2, 0, none⟩)], .string x.1, undef, undef, undef, undef, undef, undef, undef, undef, undef, undef, undef, undef], defers := [] }) ?assign ?body ?done ?stop
  case assign =>
    intro l x W K hK
    gi_wp2
    exact hK
  case body =>
    rintro l pre x W ⟨hpl, hJ⟩ hlt
    have hkf : ∀ A B, Kept C.O C.hi A B → KeepsFrom W0.heap.size A B := fun A B h => ⟨h.size, fun b o h1 h2 h3 => h.others b o (by omega) h2 h3⟩
    have HKF := Lib.hid hkf
    have bt := hJ.bt.cell
    have hlen : (C.pts st (pre.map fun x => x.1)).1.length = pre.length := by rw [C.pts_len, List.length_map]
    have hsn := C.pts_snoc st (pre.map fun x => x.1) x.1
    have hbud : n + ((parts s).length - pre.length) = n + ((parts s).length - (pre.length + 1)) + 1 := by omega
    rw [hbud] at hJ
    have HSN := Lib.hid hsn
    have HLEN := Lib.hid hlen
    have hxl := x.2
    clear hkf hsn hlen hbud
    generalize hys : (C.pts st (pre.map fun x => x.1)).1 = ys at *
    generalize hst : (C.pts st (pre.map fun x => x.1)).2 = s1 at *
    have HYS := Lib.hid hys
    have HST := Lib.hid hst
    clear hys hst
    generalize hB' : n + ((parts s).length - (pre.length + 1)) = bud at *
    have HBUD := Lib.hid hB'
    clear hB'
    have hle := Lib.hid (C.pts_le hJ.i hxl)
    by_cases hx0 : x.1.size = 0
    · have hpt : C.pt s1 x.1 = (x.1, s1) := by unfold Clo.pt; rw [if_pos hx0]
      have hxe : x.1.toList = [] := by rw [ba_empty _ hx0, ByteArray.toList_eq]
      have hxf : (!x.1.toList.isEmpty) = false := by rw [hxe]; rfl
      have HPT := Lib.hid hpt
      have HJ := Lib.hid hJ.down
      obtain ⟨v, hv, hrow, hno⟩ := hJ.row
      have hc := hv.cell
      have hsz := hJ.sz
      have HNO := Lib.hid (show ∀ b, v.ownBlock = some b → w.heap.size + 1 ≤ b ∧ ¬ C.O W b from fun b hb => ⟨(rowBlock hrow hb).1, hno b hb⟩)
      clear hpt hJ hno
      gi_wp2_with (gi_at_builtin; refine wpListIn_append_own_at _ rfl _ _ 29 rfl (w.heap.size + 1) 9 i0 (.string ⟨#[]⟩) 1 16 Tryz.underlying29 hi hz0 hz1 hz2 rfl (by decide) _ _ _ rfl (hrow.alloc _) ⟨W.heap.size, 0, none⟩ 1 1 [.string x.1] rfl rfl (cell_one_new _ _ _) (by simp [Value.oneCell']) (by rw [HLEN.out]; unfold maxLen; omega) (by rw [HLEN.out]; omega) (by simp; omega) ?_; intro v' w1 hown' hgrow _ hat; obtain ⟨g', cap', rfl⟩ := ownsRow_succ hown'; obtain ⟨hv1, hv2, hr2, hk2, hb2⟩ := hv.appended (by decide) hrow (by omega) (by omega) hown' hgrow; have hc1 := hv1.cell; have hf1 := hv1.frozen)
      refine ⟨hk2.from _, trivial, by simp; omega, ?_⟩
      rw [List.map_append, List.map_singleton, HSN.out, HPT.out, List.length_append, List.length_singleton, HBUD.out]
      exact HJ.out.appended HNO.out (by have := hle.out; rw [HPT.out] at this; exact this) hgrow hat hv2 (by simpa using hr2)
    · have hpt : C.pt s1 x.1 = (C.out s1 x.1, C.step s1 x.1) := by unfold Clo.pt; rw [if_neg hx0]
      have hxe : ¬ x.1.toList = [] := toList_ne _ (by omega)
      have hxf : (!x.1.toList.isEmpty) = true := by simpa using hxe
      have HPT := Lib.hid hpt
      have HJ := Lib.hid hJ
      have hcall := Lib.hid (C.call bud s1 W x.1 hJ.i hx0 hxl)
      clear hpt hJ
      gi_wp2_with (first
        | (refine ⟨trivial, ?_⟩; gi_at_call 59; refine (CallsIn.inRound l (callsIn_wide.2 hcall.out)).mono ?_; rintro e W2 ⟨rfl, hi2, hk2⟩; have HJ2 := Lib.hid (HJ.out.called hk2 hi2); have HKF2 := Lib.hid (HKF.out _ _ hk2); clear hi2 hk2; obtain ⟨v, hv, hrow, hno⟩ := HJ2.out.row; have hc := hv.cell; have hsz := HJ2.out.sz; have HNO := Lib.hid (show ∀ b, v.ownBlock = some b → w.heap.size + 1 ≤ b ∧ ¬ C.O W2 b from fun b hb => ⟨(rowBlock hrow hb).1, hno b hb⟩); clear hno bt)
        | (gi_at_builtin; refine wpListIn_append_own_at _ rfl _ _ 29 rfl (w.heap.size + 1) 9 i0 (.string ⟨#[]⟩) 1 16 Tryz.underlying29 hi hz0 hz1 hz2 rfl (by decide) _ _ _ rfl (hrow.alloc _) ⟨W2.heap.size, 0, none⟩ 1 1 [.string (C.out s1 x.1)] rfl rfl (cell_one_new _ _ _) (by simp [Value.oneCell']) (by rw [HLEN.out]; unfold maxLen; omega) (by rw [HLEN.out]; omega) (by simp; omega) ?_; intro v' w1 hown' hgrow _ hat; obtain ⟨g', cap', rfl⟩ := ownsRow_succ hown'; obtain ⟨hv1, hv2, hr2, hk2, hb2⟩ := hv.appended (by decide) hrow (by omega) (by omega) hown' hgrow; have hc1 := hv1.cell; have hf1 := hv1.frozen))
      refine ⟨HKF2.out.trans (hk2.from _), trivial, by simp; omega, ?_⟩
      rw [List.map_append, List.map_singleton, HSN.out, HPT.out, List.length_append, List.length_singleton, HBUD.out]
      exact HJ2.out.appended HNO.out (by have := hle.out; rw [HPT.out] at this; exact this) hgrow hat hv2 (by simpa using hr2)
  case done =>
    rintro D xs W hD hxs ⟨hpl, hJ⟩ hK
    rw [hxs] at hJ
    have hxl : xs.length = (parts s).length := by rw [← hxs, List.length_map]
    rw [hxl, Nat.sub_self, Nat.add_zero] at hJ
    obtain ⟨v, hv, hrow, hno⟩ := hJ.row
    have hc := hv.cell
    have hlen : (C.pts st (parts s)).1.length = (parts s).length := C.pts_len _ _
    have hpos : 0 < (C.pts st (parts s)).1.length := by rw [hlen]; exact List.length_pos_iff.2 (parts_ne s)
    have hall := hJ.small
    have HJ := Lib.hid hJ
    have HNM := Lib.hid (show C.nm st s = (joinD (C.pts st (parts s)).1, (C.pts st (parts s)).2) from rfl)
    generalize hys : (C.pts st (parts s)).1 = ys at *
    generalize hst : (C.pts st (parts s)).2 = s1 at *
    obtain ⟨gb, cap, cur, rfl, hgb, hgc, hcap, hcm, hcs, hct⟩ : ∃ gb cap cur, v = .slice (some ⟨gb, 0, none⟩) ys.length cap ∧ w.heap.size + 1 ≤ gb ∧ W.heap[gb]? = some (.cells cur 9 (0, 0)) ∧ ys.length ≤ cap ∧ cap ≤ maxLen ∧ cur.size = cap * 1 ∧ cur.toList.take (ys.length * 1) = ys.map Value.string := by
      rcases hrow.2 with ⟨_, h4⟩ | ⟨q, cap, cur, h1, h2, h3, h4, h5, h6, h7⟩
      · omega
      · exact ⟨q, cap, cur, h1, h2, h3, h4, h5, h6, h7⟩
    have hcells : ∀ (j : Nat) (x : ByteArray), ys[j]? = some x → W.cell? ⟨gb, 0 + j, none⟩ = some (.string x) := by
      intro j x hx
      have hj := (List.getElem?_eq_some_iff.1 hx).1
      have e1 : cur.toList[j]? = (ys.map Value.string)[j]? := by rw [← hct, List.getElem?_take]; simp [hj]
      have e2 : cur[j]? = some (.string x) := by
        rw [List.getElem?_map, hx] at e1
        simpa using e1
      rw [Nat.zero_add]
      simp [World.cell?, hgc, e2]
    have hjl : (Lib.join (ys.map (·.data.toList)) [36]).length ≤ 140737488355328 := by
      have h1 := join_len (ys.map (·.data.toList)) lim (fun z hz => by
        obtain ⟨y, hy, rfl⟩ := List.mem_map.1 hz
        exact hall y hy)
      rw [List.length_map] at h1
      have h2 : ys.length * (lim + 1) ≤ 8388609 * (lim + 1) := Nat.mul_le_mul_right _ (by omega)
      have h3 : 8388609 * (lim + 1) ≤ 140737488355328 := by decide
      omega
    have hjoin := Lib.hid (Tryz.strings_Join gb 0 cap ys ⟨#[36]⟩ W hcells (heap_lt hgc) (by omega) hcap hjl)
    clear hcells hjl hall hct hgc hrow hys hst hxs hlen
    gi_wp2_with (refine ⟨trivial, ?_⟩; gi_at_call 122; refine (callsIn_wide.2 hjoin.out).mono ?_; rintro e W3 ⟨rfl, b3⟩)
    obtain ⟨k3, i3⟩ := C.below HJ.out.kept HJ.out.i HJ.out.low b3
    have hK3 : W3.heap[D]? = some (.deferred (some [])) := (b3.block D (heap_lt hK)).trans hK
    have HK3 := Lib.hid k3
    have HI3 := Lib.hid i3
    clear k3 i3 b3
    gi_wp2
    refine ⟨by simp, .inl ⟨_, _, rfl, run_takeDeferred hK3, ?_⟩⟩
    refine ⟨_, results_tmp rfl _ _ _, ?_⟩
    have gD := grownBy_putObj' W3 D (.deferred none)
    have nD : ∀ b, C.O W3 b → b ≠ D := fun b hb e => by
      subst e
      obtain ⟨o, ho, hc⟩ := C.cellsO HI3.out hb (by omega)
      rw [hK3] at ho
      cases ho
      cases hc
    obtain ⟨k4, i4⟩ := C.next HK3.out HI3.out hlow gD.os gD.tape gD.output gD.size (fun b hb => gD.block b (C.ltO HI3.out hb).2 (fun e => nD b hb (by simpa using e))) (fun b hb => gD.block b (Nat.lt_of_lt_of_le hb HK3.out.size) (fun e => absurd (show b = D by simpa using e) (by omega)))
    refine ⟨by rw [HNM.out]; rfl, by rw [HNM.out]; exact i4, k4⟩
  case stop =>
    rintro D c pre W _ _ h _
    exact h.elim
end Go.Proofs.YtciijpahjjoppaaGreat
end
section
namespace Go.Proofs.YtciijpahjjoppaaGreat
open Go.RowKit Go.Shelf Go.Deep Go.Maps

def keyL (s : ByteArray) : Lit := .string s.data.toList
theorem keyL_inj {a b : ByteArray} (h : keyL a = keyL b) : a = b := by
  unfold keyL at h
  exact ByteArray.ext (Array.ext' (Lit.string.inj h))
theorem sameKey_keyL (a b : ByteArray) : (keyL a).sameKey (keyL b) = (a.toList == b.toList) := by
  rw [Bool.eq_iff_iff, beq_iff]
  refine ⟨fun h => keyL_inj (WideAt.sameKey_eq h), fun h => ?_⟩
  subst h
  simp [keyL, Lit.sameKey]
def setD (l : List ByteArray) : DataW Unit := Maps.setOf (.agg []) (l.map keyL)
theorem setD_nil : setD [] = .map [] := rfl
theorem setD_snoc (l : List ByteArray) (x : ByteArray) : setD (l ++ [x]) = (setD l).put (keyL x) (.agg []) := by
  unfold setD
  rw [List.map_append, List.map_singleton, setOf_snoc]
theorem has_setD (l : List ByteArray) (s : ByteArray) : Maps.has (setD l) (keyL s) = isIn s l := by
  unfold setD isIn
  rw [has_setOf _ _ _ (fun y hy => by obtain ⟨_, _, rfl⟩ := List.mem_map.1 hy; trivial), List.any_map]
  congr 1
  funext y
  exact sameKey_keyL y s
theorem law9 : Keyed Tryz.prog 9 := string_keyed Tryz.underlying9
theorem zero93 (w : World) : (zeroValue 93).run Tryz.prog w = .ok (.agg #[]) w := by kernel_rfl
theorem under92 : Tryz.prog.underlying 92 = some (.map 9 93) := by kernel_rfl
theorem key9 {s : ByteArray} (hs : s.size ≤ maxLen) : keyOf Tryz.prog 9 (.string s) = some (keyL s) := WideMaps.keyOf_string_mk Tryz.underlying9 hs
abbrev SetAt (w : World) (B n : Nat) (D : DataW Unit) : Prop := w.ownsMap Tryz.prog 9 unitElem B n D
theorem ownsMap_same {H : Type} {P : Program} {k : TypeId} {R : Value → Option (DataW H × List MemPlace)} {b n : Nat} {D : DataW H} {w w' : World} (h : w.ownsMap P k R b n D) (hb : w'.heap[b]? = w.heap[b]?) : w'.ownsMap P k R b n D := by
  unfold World.ownsMap at *
  rw [hb]
  exact h

theorem map_not_cells {H : Type} {P : Program} {k : TypeId} {R : Value → Option (DataW H × List MemPlace)} {b n : Nat} {D : DataW H} {w : World} (h : w.ownsMap P k R b n D) {cs : Array Value} {t : TypeId} {fz : Nat × Nat} (hc : w.heap[b]? = some (.cells cs t fz)) : False := by
  unfold World.ownsMap at h
  obtain ⟨es, clock, h1, _⟩ := h
  rw [hc] at h1
  cases h1
structure NamesI (b0 n : Nat) (s : List ByteArray) (w : World) : Prop where
  sz : b0 + 4 ≤ w.heap.size
  len : s.length + n ≤ 3000000
  small : ∀ y ∈ s, y.size ≤ lim
  set : SetAt w (b0 + 1) s.length (setD s)
  bq : Boxed w (b0 + 2) 92 (.map (some (b0 + 1)))
  row : ∃ v, Boxed w b0 29 v ∧ w.ownsRow b0 9 1 v s.length (s.map Value.string)
def NamesO (b0 : Nat) (w : World) (b : Nat) : Prop := b = b0 ∨ b = b0 + 1 ∨ b = b0 + 2 ∨ ∃ v, Boxed w b0 29 v ∧ v.ownBlock = some b
theorem Boxed.uniq {w : World} {b : Nat} {t : TypeId} {v v' : Value} (h : Boxed w b t v) (h' : Boxed w b t v') : v = v' := by
  have e := h.symm.trans h'
  simpa using e
theorem NamesI.ltO {b0 n : Nat} {s : List ByteArray} {w : World} {b : Nat} (h : NamesI b0 n s w) (hb : NamesO b0 w b) : b0 ≤ b ∧ b < w.heap.size := by
  have hz := h.sz
  rcases hb with rfl | rfl | rfl | ⟨v, h1, h2⟩
  · omega
  · omega
  · omega
  · obtain ⟨v', h3, h4⟩ := h.row
    cases Boxed.uniq h1 h3
    have := rowBlock h4 h2
    exact ⟨this.1, this.2.1⟩
theorem NamesI.keep {b0 n : Nat} {s : List ByteArray} {w w' : World} (h : NamesI b0 n s w) (hs : w.heap.size ≤ w'.heap.size) (ho : ∀ b, NamesO b0 w b → w'.heap[b]? = w.heap[b]?) : NamesI b0 n s w' ∧ ∀ b, NamesO b0 w' b → NamesO b0 w b := by
  obtain ⟨v, h1, h2⟩ := h.row
  have e0 := ho b0 (.inl rfl)
  have e1 := ho _ (.inr (.inl rfl))
  have e2 := ho _ (.inr (.inr (.inl rfl)))
  refine ⟨⟨Nat.le_trans h.sz hs, h.len, h.small, ownsMap_same h.set e1, e2.trans h.bq, v, e0.trans h1, ownsRow_same h2 fun b hb => ho b (.inr (.inr (.inr ⟨v, h1, hb⟩)))⟩, fun b hb => ?_⟩
  rcases hb with rfl | rfl | rfl | ⟨u, h3, h4⟩
  · exact .inl rfl
  · exact .inr (.inl rfl)
  · exact .inr (.inr (.inl rfl))
  · exact .inr (.inr (.inr ⟨u, e0.symm.trans h3, h4⟩))
def addName (s : List ByteArray) (x : ByteArray) : List ByteArray := if isIn x s then s else s ++ [x]
theorem NamesI.cellsO {b0 n : Nat} {s : List ByteArray} {w : World} {b : Nat} (h : NamesI b0 n s w) (hb : NamesO b0 w b) (hi : b0 + 4 ≤ b) : ∃ o : Obj, w.heap[b]? = some o ∧ o.isCells = true := by
  rcases hb with rfl | rfl | rfl | ⟨v, h1, h2⟩
  · omega
  · omega
  · omega
  · obtain ⟨v', h3, h4⟩ := h.row
    cases Boxed.uniq h1 h3
    obtain ⟨_, _, cs, t, fz, e⟩ := rowBlock h4 h2
    exact ⟨_, e, rfl⟩
def NamesPost (b0 n : Nat) (s : List ByteArray) (x : ByteArray) (w : World) (e : Ending) (w' : World) : Prop := e = .returned (.string x) ∧ NamesI b0 n (addName s x) w' ∧ Kept (NamesO b0) (b0 + 4) w w'
theorem keptN_below {b0 n : Nat} {s : List ByteArray} {w w' : World} (h : NamesI b0 n s w) (hb : Below w.heap.size w w') : Kept (NamesO b0) (b0 + 4) w w' :=
  ⟨hb.os, hb.tape, hb.output, hb.size, fun b h1 _ => hb.block b h1, fun b hb' => .inl ((h.keep hb.size fun b hb' => hb.block b (h.ltO hb').2).2 b hb'), fun b _ _ h2 _ => (hb.block b (heap_lt h2)).trans h2⟩

theorem names1_end {b0 n : Nat} {s : List ByteArray} {w w2 w3 : World} {x : ByteArray} {v v' : Value} {E tmp : Obj} (h : NamesI b0 (n + 1) s w) (hx : x.size ≤ lim) (hin : isIn x s = false)
    (hv : Boxed (w.alloc E) b0 29 v) (hr : (w.alloc E).ownsRow b0 9 1 v s.length (s.map Value.string)) (ho : w2.ownsMap Tryz.prog 9 (unitElem (H := Unit)) (b0 + 1) (s.length + 1) ((setD s).put (keyL x) (.agg []))) (hg1 : (w.alloc E).grownBy w2 (some (b0 + 1)))
    (hg : (w2.alloc tmp).grownBy w3 v.ownBlock) (hat : v'.ownBlock = v.ownBlock ∨ v'.ownBlock = some (w2.alloc tmp).heap.size)
    (hb2 : Boxed (w3.setCell ⟨b0, 0, none⟩ v') b0 29 v') (hr2 : (w3.setCell ⟨b0, 0, none⟩ v').ownsRow b0 9 1 v' (s ++ [x]).length ((s ++ [x]).map Value.string)) :
    NamesI b0 n (addName s x) (w3.setCell ⟨b0, 0, none⟩ v') ∧ Kept (NamesO b0) (b0 + 4) w (w3.setCell ⟨b0, 0, none⟩ v') := by
  have hz := h.sz
  have al := (Below.refl w.heap.size w).alloc (Nat.le_refl _) E
  have al2 := (Below.refl w2.heap.size w2).alloc (Nat.le_refl _) tmp
  have hs := grownBy_setCell' w3 b0 v'
  have s1 : w.heap.size + 1 ≤ w2.heap.size := by have := hg1.size; simpa using this
  have s2 : w2.heap.size + 1 ≤ w3.heap.size := by have := hg.size; simpa using this
  have s3 : w3.heap.size ≤ (w3.setCell ⟨b0, 0, none⟩ v').heap.size := hs.size
  have hvw : Boxed w b0 29 v := (al.block b0 (by omega)).symm.trans hv
  have i1 := (h.keep al.size fun b hb => al.block b (h.ltO hb).2).1
  have blk : ∀ b, b < w.heap.size → b ≠ b0 → b ≠ b0 + 1 → some b ≠ v.ownBlock → (w3.setCell ⟨b0, 0, none⟩ v').heap[b]? = w.heap[b]? := fun b h1 h2 h3 h4 => by
    rw [hs.block b (by omega) (fun e => h2 (by simpa using e)), hg.block b (by simp; omega) h4, al2.block b (by omega), hg1.block b (by simp; omega) (fun e => h3 (by simpa using e)), al.block b h1]
  have nq : some (b0 + 2) ≠ v.ownBlock := i1.bq.not_row (by decide) hr
  have nm : some (b0 + 1) ≠ v.ownBlock := fun e => by
    obtain ⟨_, _, cs, t, fz, ec⟩ := rowBlock hr e.symm
    exact map_not_cells i1.set ec
  have hm : (w3.setCell ⟨b0, 0, none⟩ v').heap[b0 + 1]? = w2.heap[b0 + 1]? := by
    rw [hs.block _ (by omega) (fun e => by simp at e), hg.block _ (by simp; omega) nm, al2.block _ (by omega)]
  refine ⟨?_, ⟨hs.os.trans (hg.os.trans (al2.os.trans (hg1.os.trans al.os))), hs.tape.trans (hg.tape.trans (al2.tape.trans (hg1.tape.trans al.tape))), hs.output.trans (hg.output.trans (al2.output.trans (hg1.output.trans al.output))), by omega, fun b h1 h2 => blk b h1 (fun e => h2 (.inl e)) (fun e => h2 (.inr (.inl e))) (fun e => h2 (.inr (.inr (.inr ⟨v, hvw, e.symm⟩)))), fun b hb => ?_, fun b o h1 h2 h3 => ?_⟩⟩
  · unfold addName
    rw [hin]
    refine ⟨by omega, by have := h.len; simp; omega, fun y hy => ?_, ?_, (blk _ (by omega) (by omega) (by omega) nq).trans h.bq, v', hb2, hr2⟩
    · simp only [Bool.false_eq_true, if_false] at hy
      rcases List.mem_append.1 hy with hy | hy
      · exact h.small y hy
      · rw [List.mem_singleton.1 hy]; exact hx
    · simp only [Bool.false_eq_true, if_false]
      rw [setD_snoc, List.length_append, List.length_singleton]
      exact ownsMap_same ho hm
  · rcases hb with rfl | rfl | rfl | ⟨u, h3, h4⟩
    · exact .inl (.inl rfl)
    · exact .inl (.inr (.inl rfl))
    · exact .inl (.inr (.inr (.inl rfl)))
    · cases Boxed.uniq h3 hb2
      rcases hat with e | e
      · exact .inl (.inr (.inr (.inr ⟨v, hvw, e.symm.trans h4⟩)))
      · rw [e] at h4
        refine .inr ?_
        simp at h4
        omega
  · have hlt := heap_lt h2
    rw [blk b hlt (by omega) (by omega) (fun e => ?_)]
    · exact h2
    · obtain ⟨_, _, cs, t, fz, ec⟩ := rowBlock hr e.symm
      rw [al.block b hlt, h2] at ec
      cases ec
      cases h3
set_option maxRecDepth 100000 in
set_option maxHeartbeats 2000000 in
theorem names1_any (b0 n : Nat) (s : List ByteArray) (w : World) (x : ByteArray) (h : NamesI b0 (n + 1) s w) (hx : x.size ≤ lim) :
    Calls Tryz.prog 50 #[.string x, .pointer (some ⟨b0 + 2, 0, none⟩), .pointer (some ⟨b0, 0, none⟩)] w (NamesPost b0 n s x w) := by
  have hk := key9 (s := x) (Nat.le_trans hx (by decide))
  have HK := Lib.hid hk
  have HI := Lib.hid h
  have cq := h.bq.cell
  have hz := h.sz
  have hl := h.len
  clear h hk
  cases hin : isIn x s with
  | true =>
    have HS := Lib.hid (show Maps.has (setD s) (keyL x) = true by rw [has_setD, hin])
    have HN := Lib.hid hin
    clear hin
    go_enter Tryz.func50, Tryz.ntmps50
    go_wp2_with (first
      | (at_lookup; refine wpList_lookup_own_unit _ rfl _ _ 92 rfl 9 93 law9 under92 (zero93 _) (b0 + 1) _ _ rfl HI.out.set _ _ rfl HK.out ?_; rw [HS.out]))
    go_ret
    have b := (Below.refl w.heap.size w).alloc (Nat.le_refl _) (.cells #[] 93)
    refine ⟨rfl, ?_, keptN_below HI.out b⟩
    have hi := (HI.out.keep b.size fun b' hb' => b.block b' (HI.out.ltO hb').2).1
    unfold addName
    rw [HN.out]
    exact ⟨hi.sz, by have := hi.len; simp; omega, hi.small, hi.set, hi.bq, hi.row⟩
  | false =>
    have HS := Lib.hid (show Maps.has (setD s) (keyL x) = false by rw [has_setD, hin])
    have HN := Lib.hid hin
    clear hin
    have b := (Below.refl w.heap.size w).alloc (Nat.le_refl _) (.cells #[] 93)
    have HI1 := Lib.hid (HI.out.keep b.size fun b' hb' => b.block b' (HI.out.ltO hb').2).1
    have cq1 := HI1.out.bq.cell
    obtain ⟨v, hv0, hr0⟩ := HI1.out.row
    have HV := Lib.hid hv0
    have HR := Lib.hid hr0
    obtain ⟨i0, hi, hz0, hz1, hz2⟩ := info_parts info9
    clear hv0 hr0 b
    go_enter Tryz.func50, Tryz.ntmps50
    go_wp2_with (first
      | (at_lookup; refine wpList_lookup_own_unit _ rfl _ _ 92 rfl 9 93 law9 under92 (zero93 _) (b0 + 1) _ _ rfl HI.out.set _ _ rfl HK.out ?_; rw [HS.out])
      | (at_mapUpdate; refine wpList_mapUpdate_own _ rfl _ _ _ 92 rfl 9 93 law9 under92 (unitElem (H := Unit)) (b0 + 1) _ _ rfl HI1.out.set (by unfold maxLen; omega) _ _ _ rfl rfl HK.out _ [] unitElem_mk ?_; intro w2 hown1 hgrow1;
          have hv := HV.out.kept hgrow1 (by simp); have hrow := ownsRow_same HR.out (fun b' hb' => hgrow1.block b' (rowBlock HR.out hb').2.1 (fun e => by
            have e' : b' = b0 + 1 := by simpa using e
            obtain ⟨_, _, cs, t, fz, ec⟩ := rowBlock HR.out hb'
            rw [e'] at ec
            exact map_not_cells HI1.out.set ec)); have hc := hv.cell; have HO1 := Lib.hid hown1; have HG1 := Lib.hid hgrow1; clear hown1 hgrow1)
      | (at_builtin; refine wpList_append_own_at _ rfl _ _ 29 rfl b0 9 i0 (.string ⟨#[]⟩) 1 16 Tryz.underlying29 hi hz0 hz1 hz2 rfl (by decide) _ _ _ rfl (hrow.alloc _) ⟨w2.heap.size, 0, none⟩ 1 1 [.string x] rfl rfl (cell_one_new _ _ _) (by simp [Value.oneCell']) (by unfold maxLen; omega) (by omega) (by have := HG1.out.size; simp at this ⊢; omega) ?_; intro v' w3 hown' hgrow _ hat; obtain ⟨g', cap', rfl⟩ := ownsRow_succ hown'; obtain ⟨hv1, hv2, hr2, hk2, hb2⟩ := hv.appended (by decide) hrow (by have := HG1.out.size; simp at this; omega) (Nat.le_refl _) hown' hgrow; have hc1 := hv1.cell; have hf1 := hv1.frozen))
    go_ret
    exact ⟨rfl, names1_end HI.out hx HN.out HV.out HR.out HO1.out HG1.out hgrow hat hv2 (by simpa using hr2)⟩
end Go.Proofs.YtciijpahjjoppaaGreat
end
section
namespace Go.Proofs.YtciijpahjjoppaaGreat
open Go.RowKit Go.Shelf Go.Deep Go.Maps

def ixOf (ps : List (ByteArray × ByteArray)) (x : ByteArray) : Option Nat := ps.findIdx? fun p => p.1.toList == x.toList
def FirstD (D : DataW Unit) (ps : List (ByteArray × ByteArray)) : Prop := IsMap D ∧ ∀ x, (∀ i, ixOf ps x = some i → has D (keyL x) = true ∧ ∀ z, D.atKey (keyL x) z = .lit (.int .i64 i)) ∧ (ixOf ps x = none → has D (keyL x) = false)
theorem keyL_lit (x : ByteArray) : WideAt.IsKeyLit (keyL x) := trivial
theorem firstD_nil : FirstD (.map []) [] := ⟨⟨_, rfl⟩, fun _ => ⟨fun i h => by simp [ixOf] at h, fun _ => rfl⟩⟩
theorem ixOf_snoc (ps : List (ByteArray × ByteArray)) (o n x : ByteArray) : ixOf (ps ++ [(o, n)]) x = (ixOf ps x).or (if o.toList == x.toList then some ps.length else none) := by
  unfold ixOf
  rw [List.findIdx?_append]
  congr 1
  cases h : o.toList == x.toList <;> simp [h, List.findIdx?_cons]
theorem firstD_old {D : DataW Unit} {ps : List (ByteArray × ByteArray)} (h : FirstD D ps) {o : ByteArray} (n : ByteArray) (ho : has D (keyL o) = true) : FirstD D (ps ++ [(o, n)]) := by
  refine ⟨h.1, fun x => ?_⟩
  rw [ixOf_snoc]
  cases hx : ixOf ps x with
  | some j => exact ⟨fun i hi => by simp at hi; subst hi; exact ((h.2 x).1 j hx), fun hn => by simp at hn⟩
  | none =>
    have hf := (h.2 x).2 hx
    have hne : (o.toList == x.toList) = false := by
      cases e : o.toList == x.toList with
      | false => rfl
      | true =>
        rw [(beq_iff o x).1 e, hf] at ho
        cases ho
    rw [hne]
    exact ⟨fun i hi => by simp at hi, fun _ => hf⟩
theorem firstD_new {D : DataW Unit} {ps : List (ByteArray × ByteArray)} (h : FirstD D ps) {o : ByteArray} (n : ByteArray) (ho : has D (keyL o) = false) : FirstD (D.put (keyL o) (.lit (.int .i64 ps.length))) (ps ++ [(o, n)]) := by
  refine ⟨h.1.put _ _, fun x => ?_⟩
  rw [ixOf_snoc]
  by_cases e : o = x
  · subst e
    have hx : ixOf ps o = none := by
      cases hx : ixOf ps o with
      | none => rfl
      | some j => rw [((h.2 o).1 j hx).1] at ho; cases ho
    rw [hx]
    refine ⟨fun i hi => ?_, fun hn => by simp at hn⟩
    simp at hi
    subst hi
    exact ⟨has_put_same h.1 (keyL_lit _) _, fun z => atKey_put_same h.1 (keyL_lit _) _ z⟩
  · have hne : (o.toList == x.toList) = false := by
      cases e' : o.toList == x.toList with
      | false => rfl
      | true => exact absurd ((beq_iff o x).1 e') e
    have hk : keyL x ≠ keyL o := fun e' => e (keyL_inj e').symm
    rw [hne]
    refine ⟨fun i hi => ?_, fun hn => ?_⟩
    · have hi' : ixOf ps x = some i := by simpa using hi
      obtain ⟨h1, h2⟩ := (h.2 x).1 i hi'
      exact ⟨by rw [has_put_other hk]; exact h1, fun z => by rw [atKey_put_other hk]; exact h2 z⟩
    · rw [has_put_other hk]
      exact (h.2 x).2 (by simpa using hn)
theorem wf_k (k : Nat) (h : k ≤ 9223372036854775807) : (Lit.int .i64 (k : Nat)).wf = true := by
  rw [show Lit.wf (.int .i64 (k : Nat)) = (decide ((-9223372036854775808 : Int) ≤ (k : Nat)) && decide (((k : Nat) : Int) ≤ 9223372036854775807)) from rfl]
  simp
  omega
/-- A row of pairs. -/
def PairsAt (w : World) (a : Option Addr) (len cap : Nat) (ps : List (ByteArray × ByteArray)) : Prop :=
  ps.length = len ∧ len ≤ cap ∧ cap ≤ maxLen ∧ (∀ p ∈ ps, p.1.size ≤ lim ∧ p.2.size ≤ lim) ∧ (len = 0 ∨ ∃ b o, a = some ⟨b, o, none⟩ ∧ b < w.heap.size ∧ ∀ (j : Nat) p, ps[j]? = some p → w.cell? ⟨b, o + j * 2, none⟩ = some (.string p.1) ∧ w.cell? ⟨b, o + j * 2 + 1, none⟩ = some (.string p.2))
theorem PairsAt.kept {w w' : World} {a : Option Addr} {len cap : Nat} {ps : List (ByteArray × ByteArray)} (h : PairsAt w a len cap ps) (hs : w.heap.size ≤ w'.heap.size) (hb : ∀ b, b < w.heap.size → w'.heap[b]? = w.heap[b]?) : PairsAt w' a len cap ps := by
  obtain ⟨h1, h2, h3, h4, h5⟩ := h
  refine ⟨h1, h2, h3, h4, ?_⟩
  rcases h5 with h5 | ⟨b, o, e, hl, hc⟩
  · exact .inl h5
  · exact .inr ⟨b, o, e, by omega, fun j p hp => ⟨(cell_eq (hb b hl)).trans (hc j p hp).1, (cell_eq (hb b hl)).trans (hc j p hp).2⟩⟩
theorem PairsAt.at {w : World} {a : Option Addr} {len cap : Nat} {ps : List (ByteArray × ByteArray)} (h : PairsAt w a len cap ps) {k : Nat} (hk : k < len) :
    ∃ b o p, a = some ⟨b, o, none⟩ ∧ b < w.heap.size ∧ ps[k]? = some p ∧ p.1.size ≤ lim ∧ p.2.size ≤ lim ∧ w.cell? ⟨b, o + k * 2, none⟩ = some (.string p.1) ∧ w.cell? ⟨b, o + k * 2 + 1, none⟩ = some (.string p.2) := by
  obtain ⟨p, hp⟩ : ∃ p, ps[k]? = some p := ⟨ps[k]'(by rw [h.1]; exact hk), List.getElem?_eq_getElem _⟩
  rcases h.2.2.2.2 with h0 | ⟨b, o, rfl, hb, hc⟩
  · omega
  · exact ⟨b, o, p, rfl, hb, hp, (h.2.2.2.1 p (List.mem_of_getElem? hp)).1, (h.2.2.2.1 p (List.mem_of_getElem? hp)).2, hc k p hp⟩
theorem under106 : Tryz.prog.underlying 106 = some (.map 9 3) := by kernel_rfl
theorem zero3 (w : World) : (zeroValue 3).run Tryz.prog w = .ok (.int .i64 0) w := by kernel_rfl
abbrev MapAt (w : World) (B n : Nat) (D : DataW Unit) : Prop := w.ownsMap Tryz.prog 9 (plainElem Tryz.prog 3) B n D

set_option maxRecDepth 100000 in
set_option maxHeartbeats 2000000 in
theorem firstOf_any (a : Option Addr) (len cap : Nat) (ps : List (ByteArray × ByteArray)) (w : World) (hP : PairsAt w a len cap ps) :
    Calls Tryz.prog 58 #[.slice a len cap] w fun e w' => e = .returned (.map (some w.heap.size)) ∧ (∃ D n, MapAt w' w.heap.size n D ∧ FirstD D ps) ∧ Below w.heap.size w w' := by
  have hmm := @run_makeMap Tryz.prog
  have hlc := hP.2.1
  have hcm := hP.2.2.1
  have HL := Lib.hid hP.1
  have HP := Lib.hid hP
  unfold maxLen at hcm
  clear hP
  go_enter Tryz.func58, Tryz.ntmps58
  go_wp2_with fail
  go_loopw [11] (fun i wr => ∃ k : Nat, k ≤ len ∧ i = .int .i64 k ∧ (∃ D n, n ≤ k ∧ MapAt wr w.heap.size n D ∧ FirstD D (ps.take k)) ∧ Below w.heap.size w wr) (fun i _ => len - (intOf i).toNat)
  case atStart => exact ⟨0, Nat.zero_le _, rfl, ⟨.map [], 0, Nat.le_refl _, World.ownsMap_made _ _ _ _, firstD_nil⟩, (Below.refl _ _).alloc (Nat.le_refl _) _⟩
  case round =>
    obtain ⟨k, hk, rfl, ⟨D, n, hn, hM, hF⟩, hB⟩ := hrel
    have HM := Lib.hid hM
    have HF := Lib.hid hF
    have HB := Lib.hid hB
    clear hM hF hB
    by_cases hlt : k < len
    · obtain ⟨b, o, p, rfl, hb, hp, hp1, hp2, c0, c1⟩ := HP.out.at hlt
      rw [← HB.out.cell (p := ⟨b, o + k * 2, none⟩) hb] at c0
      rw [← HB.out.cell (p := ⟨b, o + k * 2 + 1, none⟩) hb] at c1
      have HPK := Lib.hid hp
      have HTK := Lib.hid (show ps.take (k + 1) = ps.take k ++ [(p.1, p.2)] by rw [List.take_add_one, hp]; rfl)
      have HLK := Lib.hid (show (ps.take k).length = k by rw [List.length_take, HL.out]; omega)
      have HKEY := Lib.hid (key9 (s := p.1) (Nat.le_trans hp1 (by decide)))
      have hm1 := Lib.hid (HM.out.alloc (.cells #[.string p.1, .string p.2] 47))
      have B1 := Lib.hid (HB.out.trans (((Below.refl wr.heap.size wr).alloc (Nat.le_refl _) (.cells #[.string p.1, .string p.2] 47)).mono HB.out.size))
      have HWF := Lib.hid (show (Lit.int .i64 (k : Nat)).wf = true from wf_k k (by omega))
      clear hp
      cases hh : has D (keyL p.1) with
      | true =>
        have HH := Lib.hid hh
        clear hh
        go_wp2_with (first
          | (at_lookup; refine wpList_lookup_own_ok_int _ rfl _ _ 106 rfl 9 3 .i64 law9 under106 Tryz.underlying3 (zero3 _) w.heap.size n D rfl hm1.out _ _ rfl HKEY.out ?_; intro c hat hwc; rw [HH.out]; clear hat hwc))
        go_roundw
        case rel => exact ⟨k + 1, by omega, by go_num, ⟨D, n, by omega, hm1.out, by rw [HTK.out]; exact firstD_old HF.out _ HH.out⟩, B1.out⟩
        case measure => simp [intOf]; omega
      | false =>
        have HH := Lib.hid hh
        clear hh
        go_wp2_with (first
          | (at_lookup; refine wpList_lookup_own_ok_int _ rfl _ _ 106 rfl 9 3 .i64 law9 under106 Tryz.underlying3 (zero3 _) w.heap.size n D rfl hm1.out _ _ rfl HKEY.out ?_; intro c hat hwc; rw [HH.out]; clear hat hwc)
          | (at_mapUpdate; refine wpList_mapUpdate_own _ rfl _ _ _ 106 rfl 9 3 law9 under106 (plainElem Tryz.prog 3) w.heap.size _ _ rfl hm1.out (by unfold maxLen; omega) _ _ _ rfl rfl HKEY.out _ [] (plainElem_int Tryz.underlying3 (HWF.out)) ?_; intro w1 hown1 hgrow1))
        have HO1 := Lib.hid hown1
        have HB3 := Lib.hid (B1.out.grown hgrow1 B1.out.size (fun j hj => by cases hj; exact Nat.le_refl _))
        clear hown1 hgrow1
        go_roundw
        case rel => exact ⟨k + 1, by omega, by go_num, ⟨_, n + 1, by omega, HO1.out, by rw [HTK.out]; have := firstD_new HF.out p.2 HH.out; rw [HLK.out] at this; exact this⟩, HB3.out⟩
        case measure => simp [intOf]; omega
    · obtain rfl : k = len := by omega
      have HE := Lib.hid (show FirstD D ps by have := HF.out; rw [List.take_of_length_le (by rw [HL.out]; omega)] at this; exact this)
      go_wp2_with fail
      go_ret
      exact ⟨rfl, ⟨D, n, HM.out, HE.out⟩, HB.out⟩
end Go.Proofs.YtciijpahjjoppaaGreat
end
section
namespace Go.Proofs.YtciijpahjjoppaaGreat
open Go.RowKit Go.Shelf Go.Deep Go.Maps

structure RenB where
  B1 : Nat
  Bm : Nat
  Bf : Nat
  low : Nat
  hi : Nat
  a : Option Addr
  len : Nat
  cap : Nat
  ps : List (ByteArray × ByteArray)
structure RenI (r : RenB) (w : World) : Prop where
  o1 : r.low ≤ r.B1 ∧ r.B1 < r.hi
  om : r.low ≤ r.Bm ∧ r.Bm < r.hi
  of : r.low ≤ r.Bf ∧ r.Bf < r.hi
  sz : r.hi ≤ w.heap.size
  b1 : Boxed w r.B1 44 (.slice r.a r.len r.cap)
  bf : Boxed w r.Bf 106 (.map (some r.Bm))
  map : ∃ D k, MapAt w r.Bm k D ∧ FirstD D r.ps
  row : PairsAt w r.a r.len r.cap r.ps
  rlow : ∀ b o, r.a = some ⟨b, o, none⟩ → 0 < r.len → b < r.low
def RenO (r : RenB) (_ : World) (b : Nat) : Prop := b = r.B1 ∨ b = r.Bm ∨ b = r.Bf
def renOf (ps : List (ByteArray × ByteArray)) (x : ByteArray) : ByteArray := match ixOf ps x with
  | some i => (ps.getD i (x, x)).2
  | none => x
theorem RenI.keep {r : RenB} {w w' : World} (h : RenI r w) (hs : w.heap.size ≤ w'.heap.size) (hl : ∀ b, b < r.low → w'.heap[b]? = w.heap[b]?) (ho : ∀ b, RenO r w b → w'.heap[b]? = w.heap[b]?) : RenI r w' := by
  obtain ⟨D, k, h1, h2⟩ := h.map
  refine ⟨h.o1, h.om, h.of, Nat.le_trans h.sz hs, (ho _ (.inl rfl)).trans h.b1, (ho _ (.inr (.inr rfl))).trans h.bf, ⟨D, k, ownsMap_same h1 (ho _ (.inr (.inl rfl))), h2⟩, ?_, h.rlow⟩
  obtain ⟨g1, g2, g3, g4, g5⟩ := h.row
  refine ⟨g1, g2, g3, g4, ?_⟩
  rcases g5 with g5 | ⟨b, o, e, hb, hc⟩
  · exact .inl g5
  · rcases Nat.eq_zero_or_pos r.len with h0 | h0
    · exact .inl h0
    · have hbl := hl b (h.rlow b o e h0)
      exact .inr ⟨b, o, e, by omega, fun j p hp => ⟨(cell_eq hbl).trans (hc j p hp).1, (cell_eq hbl).trans (hc j p hp).2⟩⟩
theorem ixOf_lt {ps : List (ByteArray × ByteArray)} {x : ByteArray} {i : Nat} (h : ixOf ps x = some i) : i < ps.length := by
  unfold ixOf at h
  exact (List.findIdx?_eq_some_iff_findIdx_eq.1 h).1

set_option maxRecDepth 100000 in
set_option maxHeartbeats 2000000 in
theorem rename1_any (r : RenB) (w : World) (x : ByteArray) (h : RenI r w) (hx : x.size ≤ lim) :
    Calls Tryz.prog 59 #[.string x, .pointer (some ⟨r.Bf, 0, none⟩), .pointer (some ⟨r.B1, 0, none⟩)] w fun e w' => e = .returned (.string (renOf r.ps x)) ∧ w' = w := by
  have HK := Lib.hid (key9 (s := x) (Nat.le_trans hx (by decide)))
  obtain ⟨D, k, h1, h2⟩ := h.map
  have HM := Lib.hid h1
  have HF := Lib.hid h2
  have HR := Lib.hid h.row
  have cf := h.bf.cell
  have c1 := h.b1.cell
  have hlc := h.row.2.1
  have hcm := h.row.2.2.1
  have HL := Lib.hid h.row.1
  unfold maxLen at hcm
  clear h h1 h2
  obtain ⟨B1, Bm, Bf, low, hi, a, len, cap, ps⟩ := r
  simp only at *
  cases hix : ixOf ps x with
  | none =>
    have HH := Lib.hid ((HF.out.2 x).2 hix)
    have HO := Lib.hid (show renOf ps x = x by unfold renOf; rw [hix])
    clear hix
    go_enter Tryz.func59, Tryz.ntmps59
    go_wp2_with (first
      | (at_lookup; refine wpList_lookup_own_ok_int _ rfl _ _ 106 rfl 9 3 .i64 law9 under106 Tryz.underlying3 (zero3 _) Bm k D rfl HM.out _ _ rfl HK.out ?_; intro c hat hwc; rw [HH.out]; clear hat hwc))
    go_ret
    exact ⟨by rw [HO.out]; rfl, rfl⟩
  | some i =>
    obtain ⟨g1, g2⟩ := (HF.out.2 x).1 i hix
    have hil : i < len := by rw [← HL.out]; exact ixOf_lt hix
    obtain ⟨b, o, p, rfl, hb, hp, hp1, hp2, q0, q1⟩ := HR.out.at hil
    have HO := Lib.hid (show renOf ps x = p.2 by unfold renOf; rw [hix]; simp [hp])
    have HH := Lib.hid g1
    have HA := Lib.hid g2
    clear hix g1 g2 hp
    go_enter Tryz.func59, Tryz.ntmps59
    go_wp2_with (first
      | (at_lookup; refine wpList_lookup_own_ok_int _ rfl _ _ 106 rfl 9 3 .i64 law9 under106 Tryz.underlying3 (zero3 _) Bm k D rfl HM.out _ _ rfl HK.out ?_; intro c hat hwc; rw [HH.out]; (obtain rfl : c = (i : Nat) := by (rw [HA.out] at hat; simpa using hat.symm)); clear hat hwc))
    go_ret
    exact ⟨by rw [HO.out]; rfl, rfl⟩
theorem renOf_le {ps : List (ByteArray × ByteArray)} {x : ByteArray} (h : ∀ p ∈ ps, p.1.size ≤ lim ∧ p.2.size ≤ lim) (hx : x.size ≤ lim) : (renOf ps x).size ≤ lim := by
  unfold renOf
  split
  · rename_i i hi
    have hl := ixOf_lt hi
    rw [List.getD_eq_getElem?_getD, List.getElem?_eq_getElem hl]
    exact (h _ (List.getElem_mem hl)).2
  · exact hx
/-- Rename's function, for turner.name. -/
def renClo (r : RenB) : Clo Unit 59 (.pointer (some ⟨r.Bf, 0, none⟩)) (.pointer (some ⟨r.B1, 0, none⟩)) where
  O := RenO r
  low := r.low
  hi := r.hi
  I := fun _ _ w => RenI r w
  step := fun _ _ => ()
  out := fun _ x => renOf r.ps x
  ltO := fun h hb => by
    have h1 := h.o1
    have h2 := h.om
    have h3 := h.of
    have h4 := h.sz
    rcases hb with rfl | rfl | rfl <;> omega
  cellsO := fun h hb hh => by
    have h1 := h.o1
    have h2 := h.om
    have h3 := h.of
    rcases hb with rfl | rfl | rfl <;> omega
  hiI := fun h => ⟨by have := h.o1; omega, h.sz⟩
  keep := fun h hs hl ho => ⟨h.keep hs hl ho, fun _ hb => hb⟩
  down := fun h => h
  outLe := fun h hx => renOf_le h.row.2.2.2.1 hx
  call := fun n s w x h _ hx => (rename1_any r w x h hx).mono fun e w' ⟨he, hw⟩ => by subst hw; exact ⟨he, h, Kept.refl _ _ _⟩
/-- Names' function, for turner.name. -/
def namClo (b0 : Nat) : Clo (List ByteArray) 50 (.pointer (some ⟨b0 + 2, 0, none⟩)) (.pointer (some ⟨b0, 0, none⟩)) where
  O := NamesO b0
  low := b0
  hi := b0 + 4
  I := NamesI b0
  step := addName
  out := fun _ x => x
  ltO := fun h hb => h.ltO hb
  cellsO := fun h hb hh => h.cellsO hb hh
  hiI := fun h => ⟨by omega, h.sz⟩
  keep := fun h hs _ ho => h.keep hs ho
  down := fun h => ⟨h.sz, by have := h.len; omega, h.small, h.set, h.bq, h.row⟩
  outLe := fun _ hx => hx
  call := fun n s w x h _ hx => names1_any b0 n s w x h hx
theorem name_any {σ : Type} {g : Nat} {c1 c2 : Value} (C : Clo σ g c1 c2) (hg : g = 50 ∨ g = 59) (n : Nat) (st : σ) (s : ByteArray) (w : World) (hI : C.I (n + (parts s).length) st w) (hs : s.size ≤ lim) :
    Calls Tryz.prog 86 #[.agg #[.func (.func g) #[] #[c1, c2]], .string s] w (NmPost C n st s w) := by
  rcases hg with rfl | rfl
  · exact name_50 C n st s w hI hs
  · exact name_59 C n st s w hI hs
end Go.Proofs.YtciijpahjjoppaaGreat
end
section
namespace Go.Proofs.YtciijpahjjoppaaGreat
open Go.RowKit Go.Shelf Go.Deep

theorem eql_nil {t e : TypeId} (h : Tryz.prog.underlying t = some (.slice e)) (a : Option Addr) (l c : Nat) (w : World) : Sem.run Tryz.prog (binOp .eql t (.slice a l c) (.slice none 0 0)) w = .ok (.bool a.isNone) w := by
  have := run_equal_slice_nil (P := Tryz.prog) w t e a l c h
  unfold binOp
  simp [this]
theorem setCell_heap {w : World} {b : Nat} {cs : List Value} {T : TypeId} {fz : Nat × Nat} (h : w.heap[b]? = some (.cells ⟨cs⟩ T fz)) (i : Nat) (v : Value) : (w.setCell ⟨b, i, none⟩ v).heap[b]? = some (.cells ⟨cs.set i v⟩ T fz) := by
  unfold World.setCell
  simp only [Array.getElem?_modify]
  simp [h]
theorem setCell_other {w : World} {b k : Nat} (i : Nat) (v : Value) (hk : k ≠ b) : (w.setCell ⟨b, i, none⟩ v).heap[k]? = w.heap[k]? := by
  unfold World.setCell
  simp only [Array.getElem?_modify]
  rw [if_neg (fun e => hk e.symm)]
theorem setCell_size (w : World) (b i : Nat) (v : Value) : (w.setCell ⟨b, i, none⟩ v).heap.size = w.heap.size := by
  unfold World.setCell
  simp
theorem setCells_heap {T : TypeId} {fz : Nat × Nat} : ∀ (rest pre zs : List Value) (w : World) (b : Nat), w.heap[b]? = some (.cells ⟨pre ++ zs⟩ T fz) → rest.length = zs.length → (w.setCells b pre.length rest).heap[b]? = some (.cells ⟨pre ++ rest⟩ T fz)
  | [], pre, zs, w, b, h, hl => by
    obtain rfl : zs = [] := List.eq_nil_of_length_eq_zero hl.symm
    exact h
  | v :: r, pre, zs, w, b, h, hl => by
    match zs, hl with
    | z :: zs, hl =>
      have h1 := setCell_heap h pre.length v
      have e : (pre ++ z :: zs).set pre.length v = (pre ++ [v]) ++ zs := by simp
      rw [e] at h1
      have := setCells_heap r (pre ++ [v]) zs _ b h1 (by simpa using hl)
      rw [List.length_append, List.append_assoc] at this
      exact this
theorem setCells_other : ∀ (vs : List Value) (w : World) (b o k : Nat), k ≠ b → (w.setCells b o vs).heap[k]? = w.heap[k]?
  | [], _, _, _, _, _ => rfl
  | v :: r, _, b, o, k, h => (setCells_other r _ b (o + 1) k h).trans (setCell_other o v h)
theorem setCells_size : ∀ (vs : List Value) (w : World) (b o : Nat), (w.setCells b o vs).heap.size = w.heap.size
  | [], _, _, _ => rfl
  | v :: r, w, b, o => (setCells_size r _ b (o + 1)).trans (setCell_size w b o v)
theorem setCells_os : ∀ (vs : List Value) (w : World) (b o : Nat), (w.setCells b o vs).os = w.os ∧ (w.setCells b o vs).tape = w.tape ∧ (w.setCells b o vs).output = w.output
  | [], _, _, _ => ⟨rfl, rfl, rfl⟩
  | _ :: r, _, b, o => setCells_os r _ b (o + 1)
theorem run_storeOld {w : World} {T : TypeId} {k : Nat} (hsz : ∀ w, (sizeOf T).run Tryz.prog w = .ok k w) {vs zs : List Value} (hlen : vs.length = k) {b : Nat} {T' : TypeId} (hz : zs.length = k) (hb : w.heap[b]? = some (.cells ⟨zs⟩ T')) (h1 : ∀ v ∈ vs, v.oneCell' = true) :
    (Instr.storeAt T (.pointer (some ⟨b, 0, none⟩)) (.agg ⟨vs⟩)).run Tryz.prog w = .ok () (w.setCells b 0 vs) := by
  have h := run_storeCells_cells (P := Tryz.prog) b 0 vs 0 w (fun j hj => by
    rw [box_cells hb, Array.getElem?_eq_getElem (by simp; omega)]
    rfl) (fun j hj => by
    unfold World.frozen?
    simp [hb]) h1
  unfold Instr.storeAt storeVar
  simp [Instr.sureAddr, hsz, hlen, Value.cells, Sem.run_bind]
  rw [h]
theorem wp_storeOld {ops : Array Oper} {rest : List Oper} {o : Oper} {a : Act} {Q : Exit → Act → World → Prop} (hgd : o.guard = none) (x y : Operand) (T : TypeId) (ho : o.op = .store T x y) (k : Nat) (hsz : ∀ w, (sizeOf T).run Tryz.prog w = .ok k w)
    {w : World} (b : Nat) (zs : List Value) (hz : zs.length = k) (T' : TypeId) (hb : w.heap[b]? = some (.cells ⟨zs⟩ T')) (hx : a.eval x = .pointer (some ⟨b, 0, none⟩)) (vs : List Value) (hy : a.eval y = .agg ⟨vs⟩) (hlen : vs.length = k) (h1 : ∀ v ∈ vs, v.oneCell' = true)
    (hk : wpList Tryz.prog ops Q rest (a.put o.dst undef) (w.setCells b 0 vs)) : wpList Tryz.prog ops Q (o :: rest) a w := by
  refine wpList_plain hgd fun K hK => ?_
  unfold Oper.wp execOp
  simp only [ho, hx, hy]
  rw [Sem.run_bind, run_storeOld hsz hlen hz hb h1]
  exact hK _ _ hk
theorem results_cell {fn : Func} {tmps : Array Value} {w : World} {i : Nat} {T : TypeId} {k : Nat} (hres : fn.results = #[.cell i T]) (hag : ∀ w, (isAgg T).run Tryz.prog w = .ok true w) (hsz : ∀ w, (sizeOf T).run Tryz.prog w = .ok k w) {b : Nat} (ht : tmps.getD i undef = .pointer (some ⟨b, 0, none⟩)) {vs : List Value} {T' : TypeId} {fz : Nat × Nat} (hlen : vs.length = k) (hb : w.heap[b]? = some (.cells ⟨vs⟩ T' fz)) :
    (results fn tmps).run Tryz.prog w = .ok (.agg ⟨vs⟩) w := by
  have h := run_loadCells_list (P := Tryz.prog) (w := w) ⟨b, 0, none⟩ vs (fun j v hv => by
    rw [add_mid2, Nat.zero_add, box_cells hb]
    simpa using hv)
  rw [hlen] at h
  rw [Array.getD_eq_getD_getElem?] at ht
  unfold results
  simp [hres, ht, loadVar, asAddr, hag, hsz, h, Sem.run_bind]

section
variable {σ : Type} {g : Nat} {c1 c2 : Value}
structure BxJ (C : Clo σ g c1 c2) (k : Nat) (w : World) (st : σ) (T : TypeId) (cs : List Value) (W : World) : Prop where
  i : C.I k st W
  bt : W.heap[w.heap.size]? = some (.cells #[.func (.func g) #[] #[c1, c2]] 97)
  bx : W.heap[w.heap.size + 1]? = some (.cells ⟨cs⟩ T)
  br : ∃ zs : List Value, zs.length = cs.length ∧ W.heap[w.heap.size + 2]? = some (.cells ⟨zs⟩ T)
  n0 : ¬ C.O W w.heap.size
  n1 : ¬ C.O W (w.heap.size + 1)
  n2 : ¬ C.O W (w.heap.size + 2)
  kept : Kept C.O C.hi w W
  low : C.low ≤ w.heap.size
  sz : w.heap.size + 3 ≤ W.heap.size
theorem BxJ.start (C : Clo σ g c1 c2) {k : Nat} {w : World} {st : σ} {T : TypeId} {cs : Array Value} {zs : Array Value} (hz : zs.size = cs.size) (h : C.I k st w) :
    BxJ C k w st T cs.toList (((w.alloc (.cells #[.func (.func g) #[] #[c1, c2]] 97)).alloc (.cells cs T)).alloc (.cells zs T)) := by
  have hlow : C.low ≤ w.heap.size := Nat.le_trans (C.hiI h).1 (C.hiI h).2
  have b0 : Below w.heap.size w (((w.alloc (.cells #[.func (.func g) #[] #[c1, c2]] 97)).alloc (.cells cs T)).alloc (.cells zs T)) := (((Below.refl _ w).alloc (Nat.le_refl _) _).alloc (by simp) _).alloc (by simp; omega) _
  obtain ⟨k0, i0⟩ := C.below (Kept.refl C.O C.hi w) h hlow b0
  have no : ∀ b, w.heap.size ≤ b → ¬ C.O (((w.alloc (.cells #[.func (.func g) #[] #[c1, c2]] 97)).alloc (.cells cs T)).alloc (.cells zs T)) b := fun b hb e => by
    obtain ⟨_, h2⟩ := C.keep h b0.size (fun b hb => b0.block b (by omega)) (fun b hb => b0.block b (C.ltO h hb).2)
    have := (C.ltO h (h2 b e)).2
    omega
  have e2 := heap_new ((w.alloc (.cells #[.func (.func g) #[] #[c1, c2]] 97)).alloc (.cells cs T)) (.cells zs T)
  have a3 := (Below.refl ((w.alloc (.cells #[.func (.func g) #[] #[c1, c2]] 97)).alloc (.cells cs T)).heap.size ((w.alloc (.cells #[.func (.func g) #[] #[c1, c2]] 97)).alloc (.cells cs T))).alloc (Nat.le_refl _) (.cells zs T)
  refine ⟨i0, (a3.block _ (by simp; omega)).trans (box_first w _ _), (a3.block _ (by simp)).trans (box_second w _ _), ⟨zs.toList, by simpa using hz, ?_⟩, no _ (Nat.le_refl _), no _ (by omega), no _ (by omega), k0, hlow, by simp⟩
  simp only [World.size_alloc] at e2
  exact e2
theorem BxJ.called {C : Clo σ g c1 c2} {k k' : Nat} {w : World} {st st' : σ} {T : TypeId} {cs : List Value} {W W' : World} (h : BxJ C k w st T cs W) (hk : Kept C.O C.hi W W') (hi : C.I k' st' W') : BxJ C k' w st' T cs W' := by
  have hz := h.sz
  obtain ⟨zs, h1, h2⟩ := h.br
  exact ⟨hi, (hk.block _ (by omega) h.n0).trans h.bt, (hk.block _ (by omega) h.n1).trans h.bx, ⟨zs, h1, (hk.block _ (by omega) h.n2).trans h2⟩, hk.not_own (by omega) h.n0, hk.not_own (by omega) h.n1, hk.not_own (by omega) h.n2, h.kept.trans hk, h.low, Nat.le_trans hz hk.size⟩
theorem BxJ.below {C : Clo σ g c1 c2} {k : Nat} {w : World} {st : σ} {T : TypeId} {cs : List Value} {W W' : World} (h : BxJ C k w st T cs W) (hb : Below W.heap.size W W') : BxJ C k w st T cs W' := by
  obtain ⟨k1, i1⟩ := C.below (Kept.refl C.O C.hi W) h.i (Nat.le_trans h.low (by have := h.sz; omega)) hb
  exact h.called k1 i1
theorem BxJ.set {C : Clo σ g c1 c2} {k : Nat} {w : World} {st : σ} {T : TypeId} {cs : List Value} {W : World} (h : BxJ C k w st T cs W) (j : Nat) (v : Value) : BxJ C k w st T (cs.set j v) (W.setCell ⟨w.heap.size + 1, j, none⟩ v) := by
  have own : ∀ b, C.O W b → (W.setCell ⟨w.heap.size + 1, j, none⟩ v).heap[b]? = W.heap[b]? := fun b hb => setCell_other j v fun e => h.n1 (e ▸ hb)
  have old : ∀ b, b < w.heap.size → (W.setCell ⟨w.heap.size + 1, j, none⟩ v).heap[b]? = W.heap[b]? := fun b hb => setCell_other j v (by omega)
  have hsz := setCell_size W (w.heap.size + 1) j v
  obtain ⟨k1, k2⟩ := C.keep h.i (by omega) (fun b hb => old b (by have := h.low; omega)) own
  obtain ⟨zs, h1, h2⟩ := h.br
  exact ⟨k1, (setCell_other j v (by omega)).trans h.bt, setCell_heap h.bx j v, ⟨zs, by simpa using h1, (setCell_other j v (by omega)).trans h2⟩, fun e => h.n0 (k2 _ e), fun e => h.n1 (k2 _ e), fun e => h.n2 (k2 _ e), (C.next (w' := W.setCell ⟨w.heap.size + 1, j, none⟩ v) h.kept h.i h.low rfl rfl rfl (by omega) own old).1, h.low, by rw [hsz]; exact h.sz⟩
theorem BxJ.last {C : Clo σ g c1 c2} {k : Nat} {w : World} {st : σ} {T : TypeId} {cs : List Value} {W : World} (h : BxJ C k w st T cs W) : (W.setCells (w.heap.size + 2) 0 cs).heap[w.heap.size + 2]? = some (.cells ⟨cs⟩ T) ∧ C.I k st (W.setCells (w.heap.size + 2) 0 cs) ∧ Kept C.O C.hi w (W.setCells (w.heap.size + 2) 0 cs) := by
  obtain ⟨zs, h1, h2⟩ := h.br
  have own : ∀ b, C.O W b → (W.setCells (w.heap.size + 2) 0 cs).heap[b]? = W.heap[b]? := fun b hb => setCells_other cs W _ 0 b fun e => h.n2 (e ▸ hb)
  have old : ∀ b, b < w.heap.size → (W.setCells (w.heap.size + 2) 0 cs).heap[b]? = W.heap[b]? := fun b hb => setCells_other cs W _ 0 b (by omega)
  have hs := setCells_os cs W (w.heap.size + 2) 0
  obtain ⟨k1, k2⟩ := C.next h.kept h.i h.low hs.1 hs.2.1 hs.2.2 (by rw [setCells_size]; omega) own old
  exact ⟨setCells_heap cs [] zs W _ (by simpa using h2) h1.symm, k2, k1⟩
end
end Go.Proofs.YtciijpahjjoppaaGreat
end
section
namespace Go.Proofs.YtciijpahjjoppaaGreat
open Go.RowKit Go.Shelf Go.Deep

noncomputable def Mk (P : Nat → Prop) (w : World) : World := { w with heap := w.heap.mapIdx fun i o => @ite _ (P i) (Classical.propDecidable _) (.cells #[] 0) o }
theorem mk_size (P : Nat → Prop) (w : World) : (Mk P w).heap.size = w.heap.size := by unfold Mk; simp
theorem mk_get {P : Nat → Prop} (w : World) {b : Nat} (h : ¬ P b) : (Mk P w).heap[b]? = w.heap[b]? := by
  unfold Mk
  simp only [Array.getElem?_mapIdx, if_neg h]
  cases w.heap[b]? <;> rfl
theorem mk_out {P : Nat → Prop} (w : World) {b : Nat} (h : P b) (i : Nat) : (Mk P w).cell? ⟨b, i, none⟩ = none := by
  have e : (Mk P w).heap[b]? = (w.heap[b]?).map fun _ => .cells #[] 0 := by
    unfold Mk
    simp only [Array.getElem?_mapIdx, if_pos h]
  unfold World.cell?
  rw [e]
  cases w.heap[b]? <;> simp
/-- What can be read of one world can be read of the other. -/
structure Sub (w w' : World) : Prop where
  size : w.heap.size ≤ w'.heap.size
  cell : ∀ (b i : Nat) (v : Value), w.cell? ⟨b, i, none⟩ = some v → w'.cell? ⟨b, i, none⟩ = some v
theorem Sub.refl (w : World) : Sub w w := ⟨Nat.le_refl _, fun _ _ _ h => h⟩
theorem Sub.trans {a b c : World} (h : Sub a b) (k : Sub b c) : Sub a c := ⟨Nat.le_trans h.size k.size, fun b i v e => k.cell b i v (h.cell b i v e)⟩
theorem At.sub {w w' : World} {v : Value} {d : D} (h : At w v d) (hb : Sub w w') : At w' v d := by
  induction h with
  | int n h1 h2 => exact .int n h1 h2
  | str s h => exact .str s h
  | bool b => exact .bool b
  | nil a cap h => exact .nil a cap h
  | row b o len cap k l cs h1 h2 h3 h4 h5 h6 h7 _ ih =>
    exact .row b o len cap k l cs h1 h2 h3 (Nat.lt_of_lt_of_le h4 hb.size) h5 h6 (fun j i v hj hv => hb.cell _ _ _ (h7 j i v hj hv)) fun j i ds v d h1 h2 h3 => ih j i ds v d h1 h2 h3
theorem AllAt.sub {w w' : World} : ∀ {vs : List Value} {ds : List D}, AllAt w vs ds → Sub w w' → AllAt w' vs ds
  | [], [], _, _ => trivial
  | _ :: _, _ :: _, h, hb => ⟨h.1.sub hb, AllAt.sub h.2 hb⟩
  | [], _ :: _, h, _ => h.elim
  | _ :: _, [], h, _ => h.elim
theorem cell_lt {w : World} {b i : Nat} {v : Value} (h : w.cell? ⟨b, i, none⟩ = some v) : b < w.heap.size := World.block_lt_of_cell? w ⟨b, i, none⟩ h
theorem sub_of_blocks {w w' : World} (hs : w.heap.size ≤ w'.heap.size) (P P' : Nat → Prop) (hb : ∀ b, b < w.heap.size → ¬ P b → ¬ P' b ∧ w'.heap[b]? = w.heap[b]?) : Sub (Mk P w) (Mk P' w') := by
  refine ⟨by rw [mk_size, mk_size]; exact hs, fun b i v h => ?_⟩
  have hl := cell_lt h
  rw [mk_size] at hl
  by_cases hp : P b
  · rw [mk_out w hp] at h; cases h
  · obtain ⟨h1, h2⟩ := hb b hl hp
    rw [← h]
    exact cell_eq ((mk_get w' h1).trans (h2.trans (mk_get w hp).symm))
theorem Kept.sub {O : World → Nat → Prop} {hi : Nat} {w w' : World} (h : Kept O hi w w') : Sub (Mk (O w) w) (Mk (O w') w') :=
  sub_of_blocks h.size _ _ fun b hb hp => ⟨h.not_own hb hp, h.block b hb hp⟩
theorem mk_sub (P : Nat → Prop) (w : World) : Sub (Mk P w) w := by
  refine ⟨by rw [mk_size]; exact Nat.le_refl _, fun b i v h => ?_⟩
  by_cases hp : P b
  · rw [mk_out w hp] at h; cases h
  · rw [← h]; exact cell_eq (mk_get w hp).symm
/-- What lay below all that is owned. -/
theorem sub_low {w0 w : World} (P : Nat → Prop) (hb : Below w0.heap.size w0 w) (hP : ∀ b, P b → w0.heap.size ≤ b) : Sub w0 (Mk P w) := by
  refine ⟨by rw [mk_size]; exact hb.size, fun b i v h => ?_⟩
  have hl := cell_lt h
  rw [← h]
  exact cell_eq ((mk_get w fun e => by have := hP b e; omega).trans (hb.block b hl))

theorem fold_fill : ∀ (rest : List Value) (pre zs : List Value), rest.length = zs.length →
    (rest.zipIdx pre.length).foldl (fun (cs : Array Value) (x : Value × Nat) => cs.setIfInBounds (0 + x.2) x.1) ⟨pre ++ zs⟩ = ⟨pre ++ rest⟩
  | [], pre, zs, h => by
    obtain rfl : zs = [] := List.eq_nil_of_length_eq_zero h.symm
    rfl
  | v :: r, pre, zs, h => by
    match zs, h with
    | z :: zs, h =>
      rw [List.zipIdx_cons, List.foldl_cons]
      have e : (⟨pre ++ z :: zs⟩ : Array Value).setIfInBounds (0 + pre.length) v = ⟨(pre ++ [v]) ++ zs⟩ := by
        apply Array.ext'
        simp
      show List.foldl _ ((⟨pre ++ z :: zs⟩ : Array Value).setIfInBounds (0 + pre.length) v) _ = _
      rw [e]
      have := fold_fill r (pre ++ [v]) zs (by simpa using h)
      rw [List.length_append, List.length_singleton, List.append_assoc, List.append_assoc] at this
      rw [List.append_assoc]
      exact this
theorem fold_fillA (vs : List Value) (Z : Array Value) (h : vs.length = Z.size) : (⟨vs⟩ : Array Value).zipIdx.foldl (fun cs (x : Value × Nat) => cs.setIfInBounds x.2 x.1) Z = ⟨vs⟩ := by
  have := fold_fill vs [] Z.toList (by simpa using h)
  simp only [List.length_nil, List.nil_append, Nat.zero_add] at this
  rw [← Array.foldl_toList]
  simpa using this
theorem run_buildSlice1 {w : World} {T E : TypeId} {k : Nat} (ht : Tryz.prog.underlying T = some (.slice E)) (hsz : ∀ w, (sizeOf E).run Tryz.prog w = .ok k w) {z : Value} (hz : ∀ w, (zeroValue E).run Tryz.prog w = .ok z w) (hk : 0 < k) (hk2 : k ≤ 100) {vs : List Value} (hlen : vs.length = k) :
    (Instr.buildSlice T 1 #[(0, .agg ⟨vs⟩)]).run Tryz.prog w = .ok (.slice (some ⟨w.heap.size, 0, none⟩) 1 1) (w.alloc (.cells ⟨vs⟩ E)) := by
  have n1 : ¬ k > 2 ^ 24 := by omega
  have n2 : ¬ k = 0 := by omega
  have hf : Instr.fill (fun i => some (i * k, k)) ((Array.range k).map (z.cells[· % z.cells.size]!)) [(0, .agg ⟨vs⟩)] = some ⟨vs⟩ := by
    unfold Instr.fill
    simp only [Nat.zero_mul, Nat.zero_add, Value.cells]
    rw [if_neg (by simp [hlen])]
    unfold Instr.fill
    exact congrArg some (fold_fillA vs _ (by simp [hlen]))
  unfold Instr.buildSlice
  simp [run_underlying ht, hsz, hz, n1, n2, hf, newRow, Sem.run_bind]
end Go.Proofs.YtciijpahjjoppaaGreat
end
