/-
  The function in the field that renames: what it leaves; both functions as what turner.name asks.
-/
import Derived.Test.YtciijpahjjoppaaGreatClr
namespace Go.Proofs.YtciijpahjjoppaaGreat
open Go.RowKit Go.Shelf Go.Deep Go.Maps

structure RenB where
  B1 : Nat
  Bm : Nat
  Bf : Nat
  low : Nat
  hi : Nat
  a : Option Addr
  len : Nat
  cap : Nat
  ps : List (ByteArray × ByteArray)
structure RenI (r : RenB) (w : World) : Prop where
  o1 : r.low ≤ r.B1 ∧ r.B1 < r.hi
  om : r.low ≤ r.Bm ∧ r.Bm < r.hi
  of : r.low ≤ r.Bf ∧ r.Bf < r.hi
  sz : r.hi ≤ w.heap.size
  b1 : Boxed w r.B1 44 (.slice r.a r.len r.cap)
  bf : Boxed w r.Bf 106 (.map (some r.Bm))
  map : ∃ D k, MapAt w r.Bm k D ∧ FirstD D r.ps
  row : PairsAt w r.a r.len r.cap r.ps
  rlow : ∀ b o, r.a = some ⟨b, o, none⟩ → 0 < r.len → b < r.low
def RenO (r : RenB) (_ : World) (b : Nat) : Prop := b = r.B1 ∨ b = r.Bm ∨ b = r.Bf
def renOf (ps : List (ByteArray × ByteArray)) (x : ByteArray) : ByteArray := match ixOf ps x with
  | some i => (ps.getD i (x, x)).2
  | none => x
theorem RenI.keep {r : RenB} {w w' : World} (h : RenI r w) (hs : w.heap.size ≤ w'.heap.size) (hl : ∀ b, b < r.low → w'.heap[b]? = w.heap[b]?) (ho : ∀ b, RenO r w b → w'.heap[b]? = w.heap[b]?) : RenI r w' := by
  obtain ⟨D, k, h1, h2⟩ := h.map
  refine ⟨h.o1, h.om, h.of, Nat.le_trans h.sz hs, (ho _ (.inl rfl)).trans h.b1, (ho _ (.inr (.inr rfl))).trans h.bf, ⟨D, k, ownsMap_same h1 (ho _ (.inr (.inl rfl))), h2⟩, ?_, h.rlow⟩
  obtain ⟨g1, g2, g3, g4, g5⟩ := h.row
  refine ⟨g1, g2, g3, g4, ?_⟩
  rcases g5 with g5 | ⟨b, o, e, hb, hc⟩
  · exact .inl g5
  · rcases Nat.eq_zero_or_pos r.len with h0 | h0
    · exact .inl h0
    · have hbl := hl b (h.rlow b o e h0)
      exact .inr ⟨b, o, e, by omega, fun j p hp => ⟨(cell_eq hbl).trans (hc j p hp).1, (cell_eq hbl).trans (hc j p hp).2⟩⟩
theorem ixOf_lt {ps : List (ByteArray × ByteArray)} {x : ByteArray} {i : Nat} (h : ixOf ps x = some i) : i < ps.length := by
  unfold ixOf at h
  exact (List.findIdx?_eq_some_iff_findIdx_eq.1 h).1

set_option maxRecDepth 100000 in
set_option maxHeartbeats 2000000 in
theorem rename1_any (r : RenB) (w : World) (x : ByteArray) (h : RenI r w) (hx : x.size ≤ lim) :
    Calls Tryz.prog 59 #[.string x, .pointer (some ⟨r.Bf, 0, none⟩), .pointer (some ⟨r.B1, 0, none⟩)] w fun e w' => e = .returned (.string (renOf r.ps x)) ∧ w' = w := by
  have HK := Lib.hid (key9 (s := x) (Nat.le_trans hx (by decide)))
  obtain ⟨D, k, h1, h2⟩ := h.map
  have HM := Lib.hid h1
  have HF := Lib.hid h2
  have HR := Lib.hid h.row
  have cf := h.bf.cell
  have c1 := h.b1.cell
  have hlc := h.row.2.1
  have hcm := h.row.2.2.1
  have HL := Lib.hid h.row.1
  unfold maxLen at hcm
  clear h h1 h2
  obtain ⟨B1, Bm, Bf, low, hi, a, len, cap, ps⟩ := r
  simp only at *
  cases hix : ixOf ps x with
  | none =>
    have HH := Lib.hid ((HF.out.2 x).2 hix)
    have HO := Lib.hid (show renOf ps x = x by unfold renOf; rw [hix])
    clear hix
    go_enter Tryz.func59, Tryz.ntmps59
    go_wp2_with (first
      | (at_lookup; refine wpList_lookup_own_ok_int _ rfl _ _ 106 rfl 9 3 .i64 law9 under106 Tryz.underlying3 (zero3 _) Bm k D rfl HM.out _ _ rfl HK.out ?_; intro c hat hwc; rw [HH.out]; clear hat hwc))
    go_ret
    exact ⟨by rw [HO.out]; rfl, rfl⟩
  | some i =>
    obtain ⟨g1, g2⟩ := (HF.out.2 x).1 i hix
    have hil : i < len := by rw [← HL.out]; exact ixOf_lt hix
    obtain ⟨b, o, p, rfl, hb, hp, hp1, hp2, q0, q1⟩ := HR.out.at hil
    have HO := Lib.hid (show renOf ps x = p.2 by unfold renOf; rw [hix]; simp [hp])
    have HH := Lib.hid g1
    have HA := Lib.hid g2
    clear hix g1 g2 hp
    go_enter Tryz.func59, Tryz.ntmps59
    go_wp2_with (first
      | (at_lookup; refine wpList_lookup_own_ok_int _ rfl _ _ 106 rfl 9 3 .i64 law9 under106 Tryz.underlying3 (zero3 _) Bm k D rfl HM.out _ _ rfl HK.out ?_; intro c hat hwc; rw [HH.out]; (obtain rfl : c = (i : Nat) := by (rw [HA.out] at hat; simpa using hat.symm)); clear hat hwc))
    go_ret
    exact ⟨by rw [HO.out]; rfl, rfl⟩
theorem renOf_le {ps : List (ByteArray × ByteArray)} {x : ByteArray} (h : ∀ p ∈ ps, p.1.size ≤ lim ∧ p.2.size ≤ lim) (hx : x.size ≤ lim) : (renOf ps x).size ≤ lim := by
  unfold renOf
  split
  · rename_i i hi
    have hl := ixOf_lt hi
    rw [List.getD_eq_getElem?_getD, List.getElem?_eq_getElem hl]
    exact (h _ (List.getElem_mem hl)).2
  · exact hx
/-- Rename's function, for turner.name. -/
def renClo (r : RenB) : Clo Unit 59 (.pointer (some ⟨r.Bf, 0, none⟩)) (.pointer (some ⟨r.B1, 0, none⟩)) where
  O := RenO r
  low := r.low
  hi := r.hi
  I := fun _ _ w => RenI r w
  step := fun _ _ => ()
  out := fun _ x => renOf r.ps x
  ltO := fun h hb => by
    have h1 := h.o1
    have h2 := h.om
    have h3 := h.of
    have h4 := h.sz
    rcases hb with rfl | rfl | rfl <;> omega
  cellsO := fun h hb hh => by
    have h1 := h.o1
    have h2 := h.om
    have h3 := h.of
    rcases hb with rfl | rfl | rfl <;> omega
  hiI := fun h => ⟨by have := h.o1; omega, h.sz⟩
  keep := fun h hs hl ho => ⟨h.keep hs hl ho, fun _ hb => hb⟩
  down := fun h => h
  outLe := fun h hx => renOf_le h.row.2.2.2.1 hx
  call := fun n s w x h _ hx => (rename1_any r w x h hx).mono fun e w' ⟨he, hw⟩ => by subst hw; exact ⟨he, h, Kept.refl _ _ _⟩
/-- Names' function, for turner.name. -/
def namClo (b0 : Nat) : Clo (List ByteArray) 50 (.pointer (some ⟨b0 + 2, 0, none⟩)) (.pointer (some ⟨b0, 0, none⟩)) where
  O := NamesO b0
  low := b0
  hi := b0 + 4
  I := NamesI b0
  step := addName
  out := fun _ x => x
  ltO := fun h hb => h.ltO hb
  cellsO := fun h hb hh => h.cellsO hb hh
  hiI := fun h => ⟨by omega, h.sz⟩
  keep := fun h hs _ ho => h.keep hs ho
  down := fun h => ⟨h.sz, by have := h.len; omega, h.small, h.set, h.bq, h.row⟩
  outLe := fun _ hx => hx
  call := fun n s w x h _ hx => names1_any b0 n s w x h hx
theorem name_any {σ : Type} {g : Nat} {c1 c2 : Value} (C : Clo σ g c1 c2) (hg : g = 50 ∨ g = 59) (n : Nat) (st : σ) (s : ByteArray) (w : World) (hI : C.I (n + (parts s).length) st w) (hs : s.size ≤ lim) :
    Calls Tryz.prog 86 #[.agg #[.func (.func g) #[] #[c1, c2]], .string s] w (NmPost C n st s w) := by
  rcases hg with rfl | rfl
  · exact name_50 C n st s w hI hs
  · exact name_59 C n st s w hI hs
end Go.Proofs.YtciijpahjjoppaaGreat
