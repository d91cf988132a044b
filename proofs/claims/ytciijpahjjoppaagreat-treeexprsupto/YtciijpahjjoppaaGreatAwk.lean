/-
  Names and Rename of a program without anything; the document's example (awake): walked.
-/
import Derived.Test.YtciijpahjjoppaaGreatEmq
namespace Go.Proofs.YtciijpahjjoppaaGreat
open Go.RowKit Go.Deep Go.Shelf Go.Maps

theorem Kept.toBelow {O : World → Nat → Prop} {hi n : Nat} {w w' W : World} (h : Kept O hi w w') (b : Below n W w) (hn : n ≤ W.heap.size) (hO : ∀ c, c < n → ¬ O w c) : Below n W w' :=
  ⟨h.os.trans b.os, h.tape.trans b.tape, h.output.trans b.output, Nat.le_trans b.size h.size, fun c hc => (h.block c (Nat.lt_of_lt_of_le (by omega) b.size) (hO c hc)).trans (b.block c hc)⟩
theorem namesW0 (w : World) (A : Obj) (F : Array Value) (n : Nat) (hn : n ≤ 3000000) : NamesI (w.heap.size + 1) n [] (((((w.alloc A).alloc (.cells #[.slice none 0 0] 29)).alloc (.map #[] 0)).alloc (.cells #[.map (some (w.heap.size + 1 + 1))] 92)).alloc (.cells F 97)) := by
  obtain ⟨w1, e1⟩ : ∃ w1, w1 = w.alloc A := ⟨_, rfl⟩
  obtain ⟨w2, e2⟩ : ∃ w2, w2 = w1.alloc (.cells #[.slice none 0 0] 29) := ⟨_, rfl⟩
  obtain ⟨w3, e3⟩ : ∃ w3, w3 = w2.alloc (.map #[] 0) := ⟨_, rfl⟩
  obtain ⟨w4, e4⟩ : ∃ w4, w4 = w3.alloc (.cells #[.map (some (w.heap.size + 1 + 1))] 92) := ⟨_, rfl⟩
  obtain ⟨w5, e5⟩ : ∃ w5, w5 = w4.alloc (.cells F 97) := ⟨_, rfl⟩
  rw [← e1, ← e2, ← e3, ← e4, ← e5]
  have z1 : w1.heap.size = w.heap.size + 1 := by rw [e1, World.size_alloc]
  have z2 : w2.heap.size = w.heap.size + 2 := by rw [e2, World.size_alloc, z1]
  have z3 : w3.heap.size = w.heap.size + 3 := by rw [e3, World.size_alloc, z2]
  have z4 : w4.heap.size = w.heap.size + 4 := by rw [e4, World.size_alloc, z3]
  have z5 : w5.heap.size = w.heap.size + 5 := by rw [e5, World.size_alloc, z4]
  have b3 : Below w2.heap.size w2 w3 := by rw [e3]; exact (Below.refl _ _).alloc (Nat.le_refl _) _
  have b4 : Below w3.heap.size w3 w4 := by rw [e4]; exact (Below.refl _ _).alloc (Nat.le_refl _) _
  have b5 : Below w4.heap.size w4 w5 := by rw [e5]; exact (Below.refl _ _).alloc (Nat.le_refl _) _
  have h2 : w2.heap[w.heap.size + 1]? = some (.cells #[.slice none 0 0] 29) := by rw [e2, ← z1]; exact heap_new _ _
  have h4 : w4.heap[w.heap.size + 3]? = some (.cells #[.map (some (w.heap.size + 1 + 1))] 92) := by rw [e4, ← z3]; exact heap_new _ _
  have hm : w3.ownsMap Tryz.prog 9 (unitElem (H := Unit)) (w.heap.size + 2) 0 (.map []) := by rw [e3, ← z2]; exact World.ownsMap_made _ _ _ _
  refine ⟨by omega, by simpa using hn, by simp, ownsMap_same hm ((b5.block _ (by omega)).trans (b4.block _ (by omega))), (b5.block _ (by omega)).trans h4, .slice none 0 0, ?_, World.ownsRow_nil _ _ _ _⟩
  exact ((b5.block _ (by omega)).trans ((b4.block _ (by omega)).trans (b3.block _ (by omega)))).trans h2
theorem below5 (w : World) (A B C D E : Obj) : Below w.heap.size w (((((w.alloc A).alloc B).alloc C).alloc D).alloc E) :=
  (((((Below.refl _ w).alloc (Nat.le_refl _) A).alloc (by simp) B).alloc (by simp; omega) C).alloc (by simp; omega) D).alloc (by simp; omega) E
theorem ownS_mono {b b' : Nat} {w : World} {v : Value} {ss : List ByteArray} (h : w.ownsRow b 9 1 v ss.length (ss.map Value.string)) (hb : b' ≤ b) : OwnS b' w v ss := by
  refine ⟨h.1, ?_⟩
  rcases h.2 with h4 | ⟨g, cap, cur, hv, hb', r⟩
  · exact .inl h4
  · exact .inr ⟨g, cap, cur, hv, Nat.le_trans hb hb', r⟩
/-- What Names leaves. -/
def NamPost (ns : List ByteArray) (w : World) (e : Ending) (w' : World) : Prop := ∃ v, e = .returned v ∧ OwnS w.heap.size w' v ns ∧ Below w.heap.size w w'
set_option maxRecDepth 100000 in
set_option maxHeartbeats 4000000 in
theorem namesEmp (nm : ByteArray) (w : World) (hs : nm.size ≤ lim) (hpl : (parts nm).length ≤ 3000000) : Calls Tryz.prog 19 #[.agg #[.string nm, .slice none 0 0, .slice none 0 0, .slice none 0 0, .slice none 0 0, .slice none 0 0, .slice none 0 0, .slice none 0 0, .slice none 0 0]] w (NamPost ((namClo (w.heap.size + 1)).nm [] nm).2 w) := by
  have hmm := @run_makeMap Tryz.prog
  go_enter Tryz.func19, Tryz.ntmps19
  have LN := Lib.hid (show ([.func (.func 50) #[] #[.pointer (some ⟨w.heap.size + 1 + 1 + 1, 0, none⟩), .pointer (some ⟨w.heap.size + 1, 0, none⟩)]] : List Value).length = 1 from rfl)
  have ON := Lib.hid (show ∀ v ∈ ([.func (.func 50) #[] #[.pointer (some ⟨w.heap.size + 1 + 1 + 1, 0, none⟩), .pointer (some ⟨w.heap.size + 1, 0, none⟩)]] : List Value), v.oneCell' = true by intro v hv; simp at hv; subst hv; rfl)
  go_wp2_with (first
    | ((with_reducible refine wp_storeNew (o := ⟨none, .store 97 (.tmp 5) (.tmp 8), _, _, _, _⟩) rfl (.tmp 5) (.tmp 8) 97 rfl 1 Tryz.sizeOf97 _ ?_ ?_ [.func (.func 50) #[] #[.pointer (some ⟨w.heap.size + 1 + 1 + 1, 0, none⟩), .pointer (some ⟨w.heap.size + 1, 0, none⟩)]] ?_ LN.out ON.out ?_); rfl; (simp only [World.size_alloc]; rfl); rfl))
  have I0 := Lib.hid (namesW0 w (.cells #[.string nm, .slice none 0 0, .slice none 0 0, .slice none 0 0, .slice none 0 0, .slice none 0 0, .slice none 0 0, .slice none 0 0, .slice none 0 0] 35) #[.func (.func 50) #[] #[.pointer (some ⟨w.heap.size + 1 + 1 + 1, 0, none⟩), .pointer (some ⟨w.heap.size + 1, 0, none⟩)]] (0 + (parts nm).length) (by omega))
  have B0 := Lib.hid (below5 w (.cells #[.string nm, .slice none 0 0, .slice none 0 0, .slice none 0 0, .slice none 0 0, .slice none 0 0, .slice none 0 0, .slice none 0 0, .slice none 0 0] 35) (.cells #[.slice none 0 0] 29) (.map #[] 0) (.cells #[.map (some (w.heap.size + 1 + 1))] 92) (.cells #[.func (.func 50) #[] #[.pointer (some ⟨w.heap.size + 1 + 1 + 1, 0, none⟩), .pointer (some ⟨w.heap.size + 1, 0, none⟩)]] 97))
  refine (turnEmp (namClo (w.heap.size + 1)) (.inl rfl) 0 [] nm _ I0.out hs).mono ?_
  rintro e W1 ⟨rfl, i1, k1⟩
  have B1 := Lib.hid (k1.toBelow B0.out (Nat.le_refl _) (fun c hc ho => by have := ((namClo (w.heap.size + 1)).ltO I0.out ho).1; have : w.heap.size + 1 ≤ c := this; omega))
  have I1 : NamesI (w.heap.size + 1) 0 ((namClo (w.heap.size + 1)).nm [] nm).2 W1 := i1
  obtain ⟨v, hv, hr⟩ := I1.row
  have HR := Lib.hid hr
  have cv := hv.cell
  clear I1 i1 k1 hr hv
  go_wp2_with fail
  go_ret
  exact ⟨v, rfl, ownS_mono HR.out (by omega), B1.out⟩

def renPart (ps : List (ByteArray × ByteArray)) (x : ByteArray) : ByteArray := if x.size = 0 then x else renOf ps x
def renName (ps : List (ByteArray × ByteArray)) (s : ByteArray) : ByteArray := joinD ((parts s).map (renPart ps))
theorem ren_pts (r : RenB) (l : List ByteArray) : (renClo r).pts () l = (l.map (renPart r.ps), ()) := by
  induction l with
  | nil => rfl
  | cons x l ih =>
    show (((renClo r).pt () x).1 :: ((renClo r).pts () l).1, ()) = _
    rw [ih]
    have : ((renClo r).pt () x).1 = renPart r.ps x := by
      unfold Clo.pt renPart
      split <;> rfl
    rw [this]
    rfl
theorem ren_nm (r : RenB) (s : ByteArray) : (renClo r).nm () s = (renName r.ps s, ()) := by
  unfold Clo.nm renName
  rw [ren_pts]
theorem renW0 (w w3 : World) (a : Option Addr) (len cap : Nat) (ps : List (ByteArray × ByteArray)) (F : Array Value) (hP : PairsAt w a len cap ps) (hl : w.heap.size + 4 ≤ w3.heap.size) (hb : ∀ b, b < w.heap.size → w3.heap[b]? = w.heap[b]?) (h1 : w3.heap[w.heap.size + 1]? = some (.cells #[.slice a len cap] 44)) (hm : ∃ D n, MapAt w3 (w.heap.size + 3) n D ∧ FirstD D ps) :
    RenI ⟨w.heap.size + 1, w.heap.size + 3, w3.heap.size, w.heap.size + 1, w3.heap.size + 2, a, len, cap, ps⟩ ((w3.alloc (.cells #[.map (some (w.heap.size + 3))] 106)).alloc (.cells F 97)) := by
  have b2 := ((Below.refl w3.heap.size w3).alloc (Nat.le_refl _) (.cells #[.map (some (w.heap.size + 3))] 106)).alloc (by simp) (.cells F 97)
  obtain ⟨D, n, hm1, hm2⟩ := hm
  refine ⟨⟨Nat.le_refl _, ?_⟩, ⟨?_, ?_⟩, ⟨?_, ?_⟩, ?_, (b2.block (w.heap.size + 1) (by omega)).trans h1, box_first w3 _ _, ⟨D, n, ownsMap_same hm1 (b2.block (w.heap.size + 3) (by omega)), hm2⟩, ?_, ?_⟩
  · show w.heap.size + 1 < w3.heap.size + 2; omega
  · show w.heap.size + 1 ≤ w.heap.size + 3; omega
  · show w.heap.size + 3 < w3.heap.size + 2; omega
  · show w.heap.size + 1 ≤ w3.heap.size; omega
  · show w3.heap.size < w3.heap.size + 2; omega
  · show w3.heap.size + 2 ≤ _; simp
  · exact hP.kept (by have := b2.size; omega) fun b hb' => (b2.block b (by omega)).trans (hb b hb')
  · intro b o e h0
    show b < w.heap.size + 1
    have e' : a = some ⟨b, o, none⟩ := e
    have h0' : 0 < len := h0
    rcases hP.2.2.2.2 with h | ⟨b', o', e2, hb', _⟩
    · omega
    · rw [e'] at e2
      cases e2
      omega
set_option maxRecDepth 100000 in
set_option maxHeartbeats 4000000 in
theorem renameEmp (nm : ByteArray) (a : Option Addr) (len cap : Nat) (ps : List (ByteArray × ByteArray)) (w : World) (hs : nm.size ≤ lim) (hP : PairsAt w a len cap ps) : Calls Tryz.prog 22 #[.agg #[.string nm, .slice none 0 0, .slice none 0 0, .slice none 0 0, .slice none 0 0, .slice none 0 0, .slice none 0 0, .slice none 0 0, .slice none 0 0], .slice a len cap] w fun e w' => e = .returned (.agg #[.string (renName ps nm), .slice none 0 0, .slice none 0 0, .slice none 0 0, .slice none 0 0, .slice none 0 0, .slice none 0 0, .slice none 0 0, .slice none 0 0]) ∧ Below w.heap.size w w' := by
  have HP := Lib.hid hP
  clear hP
  obtain ⟨w0, hw0⟩ : ∃ w0, w0 = ((w.alloc (.cells #[.string nm, .slice none 0 0, .slice none 0 0, .slice none 0 0, .slice none 0 0, .slice none 0 0, .slice none 0 0, .slice none 0 0, .slice none 0 0] 35)).alloc (.cells #[.slice a len cap] 44)).alloc (.cells #[.string ⟨#[]⟩, .slice none 0 0, .slice none 0 0, .slice none 0 0, .slice none 0 0, .slice none 0 0, .slice none 0 0, .slice none 0 0, .slice none 0 0] 35) := ⟨_, rfl⟩
  have B0 : Below w.heap.size w w0 := by rw [hw0]; exact (((Below.refl _ w).alloc (Nat.le_refl _) _).alloc (by simp) _).alloc (by simp; omega) _
  have z0 : w0.heap.size = w.heap.size + 3 := by rw [hw0]; simp
  have a3 := (Below.refl ((w.alloc (.cells #[.string nm, .slice none 0 0, .slice none 0 0, .slice none 0 0, .slice none 0 0, .slice none 0 0, .slice none 0 0, .slice none 0 0, .slice none 0 0] 35)).alloc (.cells #[.slice a len cap] 44)).heap.size ((w.alloc (.cells #[.string nm, .slice none 0 0, .slice none 0 0, .slice none 0 0, .slice none 0 0, .slice none 0 0, .slice none 0 0, .slice none 0 0, .slice none 0 0] 35)).alloc (.cells #[.slice a len cap] 44))).alloc (Nat.le_refl _) (.cells #[.string ⟨#[]⟩, .slice none 0 0, .slice none 0 0, .slice none 0 0, .slice none 0 0, .slice none 0 0, .slice none 0 0, .slice none 0 0, .slice none 0 0] 35)
  have k0 : w0.heap[w.heap.size]? = some (.cells #[.string nm, .slice none 0 0, .slice none 0 0, .slice none 0 0, .slice none 0 0, .slice none 0 0, .slice none 0 0, .slice none 0 0, .slice none 0 0] 35) := by rw [hw0]; exact (a3.block _ (by simp; omega)).trans (box_first w _ _)
  have k1 : w0.heap[w.heap.size + 1]? = some (.cells #[.slice a len cap] 44) := by rw [hw0]; exact (a3.block _ (by simp)).trans (box_second w _ _)
  have k2 : w0.heap[w.heap.size + 2]? = some (.cells #[.string ⟨#[]⟩, .slice none 0 0, .slice none 0 0, .slice none 0 0, .slice none 0 0, .slice none 0 0, .slice none 0 0, .slice none 0 0, .slice none 0 0] 35) := by
    have := heap_new ((w.alloc (.cells #[.string nm, .slice none 0 0, .slice none 0 0, .slice none 0 0, .slice none 0 0, .slice none 0 0, .slice none 0 0, .slice none 0 0, .slice none 0 0] 35)).alloc (.cells #[.slice a len cap] 44)) (.cells #[.string ⟨#[]⟩, .slice none 0 0, .slice none 0 0, .slice none 0 0, .slice none 0 0, .slice none 0 0, .slice none 0 0, .slice none 0 0, .slice none 0 0] 35)
    simp only [World.size_alloc] at this
    rw [hw0]
    exact this
  have HB0 := Lib.hid B0
  have Z0 := Lib.hid z0
  have K0 := Lib.hid k0
  have K1 := Lib.hid k1
  have K2 := Lib.hid k2
  have HW0 := Lib.hid hw0
  clear B0 z0 k0 k1 k2 a3 hw0
  go_enter Tryz.func22, Tryz.ntmps22
  go_wp2_with fail
  rw [← HW0.out]
  refine (firstOf_any a len cap ps w0 (HP.out.kept HB0.out.size fun b hb => HB0.out.block b hb)).mono ?_
  rw [Z0.out]
  rintro e w3 ⟨rfl, hm, b3⟩
  have S3 : w.heap.size + 4 ≤ w3.heap.size := by
    obtain ⟨D, n, h1, _⟩ := hm
    have hlt : w.heap.size + 3 < w3.heap.size := by
      have h1' : w3.ownsMap Tryz.prog 9 (plainElem Tryz.prog 3) (w.heap.size + 3) n D := h1
      unfold World.ownsMap at h1'
      obtain ⟨es, c, h2, _⟩ := h1'
      exact heap_lt h2
    omega
  have kp : w3.heap[w.heap.size]? = some (.cells #[.string nm, .slice none 0 0, .slice none 0 0, .slice none 0 0, .slice none 0 0, .slice none 0 0, .slice none 0 0, .slice none 0 0, .slice none 0 0] 35) := (b3.block _ (by omega)).trans K0.out
  have B3 := Lib.hid (show Below w.heap.size w w3 from HB0.out.trans (b3.mono (by omega)))
  have K13 := Lib.hid ((b3.block _ (show w.heap.size + 1 < w.heap.size + 3 by omega)).trans K1.out)
  have K23 := Lib.hid ((b3.block _ (show w.heap.size + 2 < w.heap.size + 3 by omega)).trans K2.out)
  have HM := Lib.hid hm
  have cp := box_cells kp
  have KP := Lib.hid kp
  clear hm b3 kp
  have LN := Lib.hid (show ([.func (.func 59) #[] #[.pointer (some ⟨w3.heap.size, 0, none⟩), .pointer (some ⟨w.heap.size + 1, 0, none⟩)]] : List Value).length = 1 from rfl)
  have ON := Lib.hid (show ∀ v ∈ ([.func (.func 59) #[] #[.pointer (some ⟨w3.heap.size, 0, none⟩), .pointer (some ⟨w.heap.size + 1, 0, none⟩)]] : List Value), v.oneCell' = true by intro v hv; simp at hv; subst hv; rfl)
  have b5 := ((Below.refl w3.heap.size w3).alloc (Nat.le_refl _) (.cells #[.map (some (w.heap.size + 3))] 106)).alloc (by simp) (.cells #[.func (.func 59) #[] #[.pointer (some ⟨w3.heap.size, 0, none⟩), .pointer (some ⟨w.heap.size + 1, 0, none⟩)]] 97)
  have C5 := Lib.hid (show ∀ (j : Nat) (v : Value), ([.string nm, .slice none 0 0, .slice none 0 0, .slice none 0 0, .slice none 0 0, .slice none 0 0, .slice none 0 0, .slice none 0 0, .slice none 0 0] : List Value)[j]? = some v → ((w3.alloc (.cells #[.map (some (w.heap.size + 3))] 106)).alloc (.cells #[.func (.func 59) #[] #[.pointer (some ⟨w3.heap.size, 0, none⟩), .pointer (some ⟨w.heap.size + 1, 0, none⟩)]] 97)).cell? ⟨w.heap.size, 0 + j, none⟩ = some v from fun j v hv => by
    rw [box_cells ((b5.block _ (heap_lt KP.out)).trans KP.out), Nat.zero_add]
    simpa using hv)
  have L9 := Lib.hid (show ([.string nm, .slice none 0 0, .slice none 0 0, .slice none 0 0, .slice none 0 0, .slice none 0 0, .slice none 0 0, .slice none 0 0, .slice none 0 0] : List Value).length = 9 from rfl)
  have I5 := Lib.hid (renW0 w w3 a len cap ps #[.func (.func 59) #[] #[.pointer (some ⟨w3.heap.size, 0, none⟩), .pointer (some ⟨w.heap.size + 1, 0, none⟩)]] HP.out S3 (fun b hb => B3.out.block b hb) K13.out HM.out)
  have B5 := Lib.hid (B3.out.trans (b5.mono B3.out.size))
  have K25 := Lib.hid ((b5.block _ (heap_lt K23.out)).trans K23.out)
  clear b5
  go_wp2_with (first
    | ((with_reducible refine wp_storeNew (o := ⟨none, .store 97 (.tmp 6) (.tmp 10), _, _, _, _⟩) rfl (.tmp 6) (.tmp 10) 97 rfl 1 Tryz.sizeOf97 _ ?_ ?_ [.func (.func 59) #[] #[.pointer (some ⟨w3.heap.size, 0, none⟩), .pointer (some ⟨w.heap.size + 1, 0, none⟩)]] ?_ LN.out ON.out ?_); rfl; (simp only [World.size_alloc]; rfl); rfl)
    | ((with_reducible refine wp_loadAgg (o := ⟨some 12, _, _, _, _, _⟩) rfl (.tmp 2) 35 rfl 9 Tryz.isAgg35 Tryz.sizeOf35 w.heap.size 0 ?_ [.string nm, .slice none 0 0, .slice none 0 0, .slice none 0 0, .slice none 0 0, .slice none 0 0, .slice none 0 0, .slice none 0 0, .slice none 0 0] L9.out C5.out ?_); rfl))
  refine (turnEmp (renClo ⟨w.heap.size + 1, w.heap.size + 3, w3.heap.size, w.heap.size + 1, w3.heap.size + 2, a, len, cap, ps⟩) (.inr rfl) 0 () nm _ I5.out hs).mono ?_
  rw [ren_nm]
  rintro e W6 ⟨rfl, _, k6⟩
  have hnO : ∀ c, c < w.heap.size ∨ c = w.heap.size + 2 → ¬ RenO ⟨w.heap.size + 1, w.heap.size + 3, w3.heap.size, w.heap.size + 1, w3.heap.size + 2, a, len, cap, ps⟩ ((w3.alloc (.cells #[.map (some (w.heap.size + 3))] 106)).alloc (.cells #[.func (.func 59) #[] #[.pointer (some ⟨w3.heap.size, 0, none⟩), .pointer (some ⟨w.heap.size + 1, 0, none⟩)]] 97)) c := fun c hc ho => by
    have ho' : c = w.heap.size + 1 ∨ c = w.heap.size + 3 ∨ c = w3.heap.size := ho
    omega
  have B6 := Lib.hid (k6.toBelow B5.out (Nat.le_refl _) (fun c hc => hnO c (.inl hc)))
  have K26 := Lib.hid ((k6.block (w.heap.size + 2) (heap_lt K25.out) (hnO _ (.inr rfl))).trans K25.out)
  clear hnO k6 cp
  have LZ := Lib.hid (show ([.string ⟨#[]⟩, .slice none 0 0, .slice none 0 0, .slice none 0 0, .slice none 0 0, .slice none 0 0, .slice none 0 0, .slice none 0 0, .slice none 0 0] : List Value).length = 9 from rfl)
  have LR := Lib.hid (show ([.string (renName ps nm), .slice none 0 0, .slice none 0 0, .slice none 0 0, .slice none 0 0, .slice none 0 0, .slice none 0 0, .slice none 0 0, .slice none 0 0] : List Value).length = 9 from rfl)
  have OR := Lib.hid (show ∀ v ∈ ([.string (renName ps nm), .slice none 0 0, .slice none 0 0, .slice none 0 0, .slice none 0 0, .slice none 0 0, .slice none 0 0, .slice none 0 0, .slice none 0 0] : List Value), v.oneCell' = true by intro v hv; simp at hv; rcases hv with rfl | rfl <;> rfl)
  go_wp2_with (first
    | ((with_reducible refine wp_storeOld (o := ⟨none, .store 35 (.tmp 4) (.tmp 13), _, _, _, _⟩) rfl (.tmp 4) (.tmp 13) 35 rfl 9 Tryz.sizeOf35 (w.heap.size + 2) [.string ⟨#[]⟩, .slice none 0 0, .slice none 0 0, .slice none 0 0, .slice none 0 0, .slice none 0 0, .slice none 0 0, .slice none 0 0, .slice none 0 0] LZ.out 35 K26.out ?_ [.string (renName ps nm), .slice none 0 0, .slice none 0 0, .slice none 0 0, .slice none 0 0, .slice none 0 0, .slice none 0 0, .slice none 0 0, .slice none 0 0] ?_ LR.out OR.out ?_); rfl; rfl))
  refine bodyPost_ret (v := .agg ⟨[.string (renName ps nm), .slice none 0 0, .slice none 0 0, .slice none 0 0, .slice none 0 0, .slice none 0 0, .slice none 0 0, .slice none 0 0, .slice none 0 0]⟩) ?_ rfl ?_
  · exact results_cell (i := 4) (b := w.heap.size + 2) Tryz.results22 Tryz.isAgg35 Tryz.sizeOf35 rfl rfl (setCells_heap [.string (renName ps nm), .slice none 0 0, .slice none 0 0, .slice none 0 0, .slice none 0 0, .slice none 0 0, .slice none 0 0, .slice none 0 0, .slice none 0 0] [] [.string ⟨#[]⟩, .slice none 0 0, .slice none 0 0, .slice none 0 0, .slice none 0 0, .slice none 0 0, .slice none 0 0, .slice none 0 0, .slice none 0 0] W6 _ K26.out rfl)
  · refine ⟨rfl, ?_⟩
    have ho := setCells_os [.string (renName ps nm), .slice none 0 0, .slice none 0 0, .slice none 0 0, .slice none 0 0, .slice none 0 0, .slice none 0 0, .slice none 0 0, .slice none 0 0] W6 (w.heap.size + 2) 0
    exact ⟨ho.1.trans B6.out.os, ho.2.1.trans B6.out.tape, ho.2.2.trans B6.out.output, by rw [setCells_size]; exact B6.out.size, fun k hk => (setCells_other _ W6 _ 0 k (by omega)).trans (B6.out.block k hk)⟩
end Go.Proofs.YtciijpahjjoppaaGreat
