/-
  The set's table (members), walked.
-/
import Derived.Test.YtjdmaindoohmkaaDoorAt
import Derived.Deep.MidRow
namespace Go.Proofs.YtjdmaindoohmkaaDoor
open Go.RowKit

/-- Is c among the first k bytes of s? -/
def inTo (s : ByteArray) (k c : Nat) : Bool := (s.data.toList.take k).any fun x => x.toNat == c
def memL (f : Nat → Bool) : List Value := (List.range 256).map fun i => Value.bool (f i)
def memArr (f : Nat → Bool) : Array Value := (memL f).toArray
theorem memL_len (f : Nat → Bool) : (memL f).length = 256 := by simp [memL]
theorem memArr_size (f : Nat → Bool) : (memArr f).size = 256 := by simp [memArr, memL_len]
theorem memL_at (f : Nat → Bool) (c : Nat) (h : c < 256) : (memL f)[c]? = some (.bool (f c)) := by
  simp [memL, h]
theorem memArr_at (f : Nat → Bool) (c : Nat) (h : c < 256) : (memArr f)[c]? = some (.bool (f c)) := by
  simp [memArr, memL_at f c h]
theorem memArr_set (f g : Nat → Bool) (c : Nat) (h : c < 256) (hg : ∀ i, i < 256 → g i = if i = c then true else f i) : (memArr f).setIfInBounds c (.bool true) = memArr g := by
  apply Array.ext_getElem?
  intro i
  rw [Array.getElem?_setIfInBounds, memArr_size]
  by_cases hi : i < 256
  · rw [memArr_at g i hi, hg i hi]
    by_cases e : c = i
    · subst e; simp [hi]
    · rw [if_neg e, memArr_at f i hi, if_neg (fun h => e h.symm)]
  · rw [if_neg (by omega), Array.getElem?_eq_none (by rw [memArr_size]; omega), Array.getElem?_eq_none (by rw [memArr_size]; omega)]
theorem inTo_zero (s : ByteArray) (c : Nat) : inTo s 0 c = false := by simp [inTo]
theorem inTo_succ (s : ByteArray) (k c : Nat) (h : k < s.size) : inTo s (k + 1) c = if c = (bt s k).toNat then true else inTo s k c := by
  unfold inTo
  rw [take_bt s k h, List.any_append]
  by_cases e : c = (bt s k).toNat
  · subst e; simp
  · rw [if_neg e]
    have : ((bt s k).toNat == c) = false := by simp; omega
    simp [this]
theorem zero59 (w : World) : (zeroValue 80).run Tryd.prog w = .ok (.agg (memArr fun _ => false)) w := by kernel_rfl
theorem info59 : (Tryd.prog.info? 80).map (·.size) = some 256 := by kernel_rfl

structure MemAt (w : World) (b : Nat) (f : Nat → Bool) : Prop where
  blk : w.heap[b]? = some (.cells (memArr f) 80)
theorem MemAt.lt {w : World} {b : Nat} {f : Nat → Bool} (h : MemAt w b f) : b < w.heap.size := heap_lt h.blk
theorem MemAt.cell {w : World} {b : Nat} {f : Nat → Bool} (h : MemAt w b f) (c : Nat) (hc : c < 256) : w.cell? ⟨b, c, none⟩ = some (.bool (f c)) := by
  simp [World.cell?, h.blk, memArr_at f c hc]
theorem MemAt.fz {w : World} {b : Nat} {f : Nat → Bool} (h : MemAt w b f) (o : Nat) : w.frozen? ⟨b, o, none⟩ = false := by simp [World.frozen?, h.blk]
theorem MemAt.range {w : World} {b : Nat} {f : Nat → Bool} (h : MemAt w b f) : w.rangeAt b 0 (memL f) := by
  intro j v hv
  have hj : j < 256 := by
    have := (List.getElem?_eq_some_iff.1 hv).1
    rwa [memL_len] at this
  rw [memL_at f j hj] at hv
  rw [Nat.zero_add, h.cell j hj]
  exact hv
theorem MemAt.there {w : World} {b : Nat} {f : Nat → Bool} (h : MemAt w b f) : w.there b 0 256 := by
  intro j hj
  rw [Nat.zero_add, h.cell j hj]
  exact ⟨rfl, h.fz j⟩
theorem mem_one (f : Nat → Bool) : ((memArr f).all fun x => x.oneCell') = true := by
  simp [memArr, memL, Value.oneCell']
theorem MemAt.stays {w w' : World} {b : Nat} {f : Nat → Bool} (h : MemAt w b f) (e : w'.heap[b]? = w.heap[b]?) : MemAt w' b f := ⟨e.trans h.blk⟩

theorem results_cell1 {fn : Func} {p : Tmp} {ty : TypeId} (h : fn.results = #[.cell p ty]) {tmps : Array Value} {P : Program} {w : World} {a : Addr} {v : Value}
    (ha : tmps.getD p undef = .pointer (some a)) (hl : (loadVar ty a).run P w = .ok v w) : (results fn tmps).run P w = .ok v w := by
  rw [Array.getD_eq_getD_getElem?] at ha
  have hr : (asAddr (tmps[p]?.getD undef)).run P w = .ok a w := by rw [ha]; rfl
  simp only [results, h]
  simp [Sem.run_bind, Result.andThen, hr, hl]
theorem below_setCells {B : Nat} {a : World} (b : Nat) (hb : B ≤ b) : ∀ (vs : List Value) (o : Nat) (w : World), Below B a w → Below B a (w.setCells b o vs)
  | [], _, _, h => h
  | v :: r, o, _, h => below_setCells b hb r (o + 1) _ (h.setCell hb v)
theorem memArr_list (f : Nat → Bool) : (memArr f).toList = memL f := by simp [memArr]

set_option maxHeartbeats 400000 in
theorem members_any (s : ByteArray) (w : World) (hs : s.size ≤ maxLen) :
    Calls Tryd.prog 51 #[.string s] w fun e w' => e = .returned (.agg (memArr (inTo s s.size))) ∧ Below w.heap.size w w' := by
  unfold maxLen at hs
  have hz := zero59
  go_enter Tryd.func51, Tryd.ntmps51
  go_wp2_with fail
  clear hz
  obtain ⟨w2, hw2⟩ : ∃ w2, w2 = (w.alloc (.cells (memArr fun _ => false) 80)).alloc (.cells (memArr fun _ => false) 80) := ⟨_, rfl⟩
  rw [← hw2]
  have M0 := Lib.hid (show MemAt w2 (w.heap.size + 1) (inTo s 0) from ⟨by
    have := heap_new (w.alloc (.cells (memArr fun _ => false) 80)) (.cells (memArr fun _ => false) 80)
    rw [show (w.alloc (.cells (memArr fun _ => false) 80)).heap.size = w.heap.size + 1 by simp] at this
    rw [hw2, this, show inTo s 0 = fun _ => false from funext (inTo_zero s)]⟩)
  have R0 := Lib.hid (show MemAt w2 w.heap.size (fun _ => false) from ⟨by
    rw [hw2, Below.heap_alloc _ _ _ (by simp), heap_new]⟩)
  have B0 := Lib.hid (show Below w.heap.size w w2 by
    rw [hw2]; exact ((Below.refl _ _).alloc (Nat.le_refl _) _).alloc (by simp) _)
  clear hw2
  go_loopw [7] (fun i wr => ∃ k : Nat, i = .int .i64 k ∧ k ≤ s.size ∧ MemAt wr (w.heap.size + 1) (inTo s k) ∧ Only (w.heap.size + 1) w2 wr) (fun i _ => s.size - (intOf i).toNat)
  case atStart => exact ⟨0, rfl, Nat.zero_le _, M0.out, Only.refl _ _⟩
  case round =>
    obtain ⟨k, rfl, hk, hm, ho⟩ := hrel
    have O := Lib.hid ho
    have M := Lib.hid hm
    clear ho
    by_cases hlt : k < s.size
    · have hc := UInt8.toNat_lt s[k]
      have h0 := hm.cell s[k].toNat (by omega)
      have f0 := hm.fz s[k].toNat
      have hc1 : (s[k].toNat : Int) < 256 := by omega
      have hb := bt_eq s k hlt
      have E := Lib.hid (memArr_set (inTo s k) (inTo s (k + 1)) s[k].toNat (by omega) (fun i _ => by rw [inTo_succ s k i hlt, hb]))
      clear hm hb
      go_wp2_with fail
      go_roundw
      case rel =>
        refine ⟨k + 1, by go_num, by omega, ⟨?_⟩, O.out.set _ _⟩
        rw [heap_set M.out.blk, E.out]
      case measure => simp [intOf]; omega
    · obtain rfl : k = s.size := by omega
      have RR := Lib.hid (R0.out.stays (O.out.block w.heap.size (by omega) R0.out.lt))
      have BB := Lib.hid (B0.out.trans (O.out.below (B := w.heap.size) (by omega) B0.out.size))
      clear hm hlt hk
      go_wp2_with (first | (refine wpList_load_mid (by rfl) 80 (.tmp 3) (by rfl) (w.heap.size + 1) 0 (by rfl) (memL (inTo s s.size)) _ M.out.range Tryd.underlying80 (by rfl) (by rw [memL_len]; exact info59) ?_) | (refine wpList_store_mid (by rfl) 80 (.tmp 2) (.tmp 15) (by rfl) w.heap.size 0 (memArr (inTo s s.size)) (by rfl) (by rfl) (by rw [memArr_size]; exact RR.out.there) (by rw [memArr_size]; exact info59) (mem_one _) ?_))
      refine bodyPost_ret (v := .agg (memArr (inTo s s.size))) ?_ rfl ⟨rfl, below_setCells _ (Nat.le_refl _) _ _ _ BB.out⟩
      refine results_cell1 Tryd.results51 (a := ⟨w.heap.size, 0, none⟩) rfl ?_
      rw [memArr_list]
      exact run_loadVar_mid _ w.heap.size 0 80 (memL (inTo s s.size)) _ (World.rangeAt_setCells_same _ _ _ _ (by rw [memL_len]; exact RR.out.there)) Tryd.underlying80 rfl (by rw [memL_len]; exact info59)
end Go.Proofs.YtjdmaindoohmkaaDoor
