/-
  Texts of this proof, put together.
-/
import Derived.Test.YtciijpahjjoppaaGreatPc3
import Derived.Test.YtciijpahjjoppaaGreatPc15
section
namespace Go.Proofs.YtciijpahjjoppaaGreat
open Go.RowKit Go.Deep Go.Shelf
set_option maxRecDepth 100000 in
theorem turnNil_88 (f : Value) (w : World) : Calls Tryz.prog 88 #[.slice none 0 0, f] w fun e w' => e = .returned (.slice none 0 0) ∧ w = w' := by
  have hn := eql_nil Tryz.underlying30 none 0 0
  simp only [Option.isNone_none] at hn
  go_enter Tryz.func88, Tryz.ntmps88
  go_wp2_with fail
  go_ret
  exact ⟨rfl, rfl⟩
set_option maxRecDepth 100000 in
theorem turnNil_90 (f : Value) (w : World) : Calls Tryz.prog 90 #[.slice none 0 0, f] w fun e w' => e = .returned (.slice none 0 0) ∧ w = w' := by
  have hn := eql_nil Tryz.underlying31 none 0 0
  simp only [Option.isNone_none] at hn
  go_enter Tryz.func90, Tryz.ntmps90
  go_wp2_with fail
  go_ret
  exact ⟨rfl, rfl⟩
set_option maxRecDepth 100000 in
theorem turnNil_92 (f : Value) (w : World) : Calls Tryz.prog 92 #[.slice none 0 0, f] w fun e w' => e = .returned (.slice none 0 0) ∧ w = w' := by
  have hn := eql_nil Tryz.underlying32 none 0 0
  simp only [Option.isNone_none] at hn
  go_enter Tryz.func92, Tryz.ntmps92
  go_wp2_with fail
  go_ret
  exact ⟨rfl, rfl⟩
set_option maxRecDepth 100000 in
theorem turnNil_94 (f : Value) (w : World) : Calls Tryz.prog 94 #[.slice none 0 0, f] w fun e w' => e = .returned (.slice none 0 0) ∧ w = w' := by
  have hn := eql_nil Tryz.underlying33 none 0 0
  simp only [Option.isNone_none] at hn
  go_enter Tryz.func94, Tryz.ntmps94
  go_wp2_with fail
  go_ret
  exact ⟨rfl, rfl⟩
set_option maxRecDepth 100000 in
theorem turnNil_123 (f : Value) (w : World) : Calls Tryz.prog 123 #[.slice none 0 0, f] w fun e w' => e = .returned (.slice none 0 0) ∧ w = w' := by
  have hn := eql_nil Tryz.underlying29 none 0 0
  simp only [Option.isNone_none] at hn
  go_enter Tryz.func123, Tryz.ntmps123
  go_wp2_with fail
  go_ret
  exact ⟨rfl, rfl⟩
theorem tnotesNil (g : Nat) (c1 c2 : Value) (w : World) : Calls Tryz.prog 87 #[.agg #[.func (.func g) #[] #[c1, c2]], .slice none 0 0] w fun e w' => e = .returned (.slice none 0 0) ∧ Below w.heap.size w w' := by
  go_enter Tryz.func87, Tryz.ntmps87
  go_wp2_with fail
  refine (turnNil_123 _ _).mono ?_
  rintro e w1 ⟨rfl, rfl⟩
  go_wp2_with fail
  go_ret
  exact ⟨rfl, (Below.refl _ _).alloc (Nat.le_refl _) _⟩
theorem frozen_box {w : World} {n : Nat} {cs : Array Value} {t : TypeId} (h : w.heap[n]? = some (.cells cs t)) : ∀ i, w.frozen? ⟨n, i, none⟩ = false := fun i => by
  unfold World.frozen?
  simp [h]

set_option maxRecDepth 100000 in
set_option maxHeartbeats 4000000 in
theorem turnEmp {σ : Type} {g : Nat} {c1 c2 : Value} (C : Clo σ g c1 c2) (hg : g = 50 ∨ g = 59) (n : Nat) (st : σ) (nm : ByteArray) (w : World) (hI : C.I (n + (parts nm).length) st w) (hs : nm.size ≤ lim) :
    Calls Tryz.prog 51 #[.agg #[.func (.func g) #[] #[c1, c2]], .agg #[.string nm, .slice none 0 0, .slice none 0 0, .slice none 0 0, .slice none 0 0, .slice none 0 0, .slice none 0 0, .slice none 0 0, .slice none 0 0]] w fun e w' => e = .returned (.agg #[.string (C.nm st nm).1, .slice none 0 0, .slice none 0 0, .slice none 0 0, .slice none 0 0, .slice none 0 0, .slice none 0 0, .slice none 0 0, .slice none 0 0]) ∧ C.I n (C.nm st nm).2 w' ∧ Kept C.O C.hi w w' := by
  have J0 := Lib.hid (BxJ.start C (T := 35) (cs := #[.string nm, .slice none 0 0, .slice none 0 0, .slice none 0 0, .slice none 0 0, .slice none 0 0, .slice none 0 0, .slice none 0 0, .slice none 0 0]) (zs := #[.string ⟨#[]⟩, .slice none 0 0, .slice none 0 0, .slice none 0 0, .slice none 0 0, .slice none 0 0, .slice none 0 0, .slice none 0 0, .slice none 0 0]) rfl hI)
  have HG := Lib.hid hg
  clear hI hg
  go_enter Tryz.func51, Tryz.ntmps51
  go_wp2_with fail
  refine (name_any C HG.out n st nm _ J0.out.i hs).mono ?_
  rintro e W1 ⟨rfl, i1, k1⟩
  have J1 := Lib.hid (J0.out.called k1 i1)
  clear i1 k1
  generalize hr : (C.nm st nm).1 = r
  generalize hs2 : (C.nm st nm).2 = s2 at *
  have HRR := Lib.hid hr
  have HS2 := Lib.hid hs2
  clear hr hs2
  have cA1 := box_cells J1.out.bt
  have cB1 : ∀ i, W1.cell? ⟨w.heap.size + 1, i, none⟩ = (#[.string nm, .slice none 0 0, .slice none 0 0, .slice none 0 0, .slice none 0 0, .slice none 0 0, .slice none 0 0, .slice none 0 0, .slice none 0 0] : Array Value)[i]? := box_cells J1.out.bx
  have fB1 := frozen_box J1.out.bx
  go_wp2_with fail
  have J1s : BxJ C n w s2 35 [.string r, .slice none 0 0, .slice none 0 0, .slice none 0 0, .slice none 0 0, .slice none 0 0, .slice none 0 0, .slice none 0 0, .slice none 0 0] (W1.setCell ⟨w.heap.size + 1, 0, none⟩ (.string r)) := J1.out.set 0 (.string r)
  have H1s := Lib.hid J1s
  clear J1s
  refine (tnotesNil g c1 c2 _).mono ?_
  rintro e W2 ⟨rfl, b⟩
  have J2 := Lib.hid (H1s.out.below b)
  clear b cA1 cB1 fB1
  have cA2 := box_cells J2.out.bt
  have cB2 : ∀ i, W2.cell? ⟨w.heap.size + 1, i, none⟩ = (#[.string r, .slice none 0 0, .slice none 0 0, .slice none 0 0, .slice none 0 0, .slice none 0 0, .slice none 0 0, .slice none 0 0, .slice none 0 0] : Array Value)[i]? := box_cells J2.out.bx
  have fB2 := frozen_box J2.out.bx
  go_wp2_with fail
  have J2s : BxJ C n w s2 35 [.string r, .slice none 0 0, .slice none 0 0, .slice none 0 0, .slice none 0 0, .slice none 0 0, .slice none 0 0, .slice none 0 0, .slice none 0 0] (W2.setCell ⟨w.heap.size + 1, 1, none⟩ (.slice none 0 0)) := J2.out.set 1 (.slice none 0 0)
  have H2s := Lib.hid J2s
  clear J2s
  refine (tnotesNil g c1 c2 _).mono ?_
  rintro e W3 ⟨rfl, b⟩
  have J3 := Lib.hid (H2s.out.below b)
  clear b cA2 cB2 fB2
  have cA3 := box_cells J3.out.bt
  have cB3 : ∀ i, W3.cell? ⟨w.heap.size + 1, i, none⟩ = (#[.string r, .slice none 0 0, .slice none 0 0, .slice none 0 0, .slice none 0 0, .slice none 0 0, .slice none 0 0, .slice none 0 0, .slice none 0 0] : Array Value)[i]? := box_cells J3.out.bx
  have fB3 := frozen_box J3.out.bx
  go_wp2_with fail
  have J3s : BxJ C n w s2 35 [.string r, .slice none 0 0, .slice none 0 0, .slice none 0 0, .slice none 0 0, .slice none 0 0, .slice none 0 0, .slice none 0 0, .slice none 0 0] (W3.setCell ⟨w.heap.size + 1, 2, none⟩ (.slice none 0 0)) := J3.out.set 2 (.slice none 0 0)
  have H3s := Lib.hid J3s
  clear J3s
  refine (tnotesNil g c1 c2 _).mono ?_
  rintro e W4 ⟨rfl, b⟩
  have J4 := Lib.hid (H3s.out.below b)
  clear b cA3 cB3 fB3
  have cA4 := box_cells J4.out.bt
  have cB4 : ∀ i, W4.cell? ⟨w.heap.size + 1, i, none⟩ = (#[.string r, .slice none 0 0, .slice none 0 0, .slice none 0 0, .slice none 0 0, .slice none 0 0, .slice none 0 0, .slice none 0 0, .slice none 0 0] : Array Value)[i]? := box_cells J4.out.bx
  have fB4 := frozen_box J4.out.bx
  go_wp2_with fail
  have J4s : BxJ C n w s2 35 [.string r, .slice none 0 0, .slice none 0 0, .slice none 0 0, .slice none 0 0, .slice none 0 0, .slice none 0 0, .slice none 0 0, .slice none 0 0] (W4.setCell ⟨w.heap.size + 1, 3, none⟩ (.slice none 0 0)) := J4.out.set 3 (.slice none 0 0)
  have H4s := Lib.hid J4s
  clear J4s
  refine (turnNil_88 _ _).mono ?_
  rintro e W5 ⟨rfl, hw⟩
  have J5 : Hid (BxJ C n w s2 35 [.string r, .slice none 0 0, .slice none 0 0, .slice none 0 0, .slice none 0 0, .slice none 0 0, .slice none 0 0, .slice none 0 0, .slice none 0 0] W5) := by rw [← hw]; exact H4s.out
  clear hw cA4 cB4 fB4
  have cA5 := box_cells J5.out.bt
  have cB5 : ∀ i, W5.cell? ⟨w.heap.size + 1, i, none⟩ = (#[.string r, .slice none 0 0, .slice none 0 0, .slice none 0 0, .slice none 0 0, .slice none 0 0, .slice none 0 0, .slice none 0 0, .slice none 0 0] : Array Value)[i]? := box_cells J5.out.bx
  have fB5 := frozen_box J5.out.bx
  go_wp2_with fail
  have J5s : BxJ C n w s2 35 [.string r, .slice none 0 0, .slice none 0 0, .slice none 0 0, .slice none 0 0, .slice none 0 0, .slice none 0 0, .slice none 0 0, .slice none 0 0] (W5.setCell ⟨w.heap.size + 1, 4, none⟩ (.slice none 0 0)) := J5.out.set 4 (.slice none 0 0)
  have H5s := Lib.hid J5s
  clear J5s
  refine (turnNil_90 _ _).mono ?_
  rintro e W6 ⟨rfl, hw⟩
  have J6 : Hid (BxJ C n w s2 35 [.string r, .slice none 0 0, .slice none 0 0, .slice none 0 0, .slice none 0 0, .slice none 0 0, .slice none 0 0, .slice none 0 0, .slice none 0 0] W6) := by rw [← hw]; exact H5s.out
  clear hw cA5 cB5 fB5
  have cA6 := box_cells J6.out.bt
  have cB6 : ∀ i, W6.cell? ⟨w.heap.size + 1, i, none⟩ = (#[.string r, .slice none 0 0, .slice none 0 0, .slice none 0 0, .slice none 0 0, .slice none 0 0, .slice none 0 0, .slice none 0 0, .slice none 0 0] : Array Value)[i]? := box_cells J6.out.bx
  have fB6 := frozen_box J6.out.bx
  go_wp2_with fail
  have J6s : BxJ C n w s2 35 [.string r, .slice none 0 0, .slice none 0 0, .slice none 0 0, .slice none 0 0, .slice none 0 0, .slice none 0 0, .slice none 0 0, .slice none 0 0] (W6.setCell ⟨w.heap.size + 1, 5, none⟩ (.slice none 0 0)) := J6.out.set 5 (.slice none 0 0)
  have H6s := Lib.hid J6s
  clear J6s
  refine (turnNil_92 _ _).mono ?_
  rintro e W7 ⟨rfl, hw⟩
  have J7 : Hid (BxJ C n w s2 35 [.string r, .slice none 0 0, .slice none 0 0, .slice none 0 0, .slice none 0 0, .slice none 0 0, .slice none 0 0, .slice none 0 0, .slice none 0 0] W7) := by rw [← hw]; exact H6s.out
  clear hw cA6 cB6 fB6
  have cA7 := box_cells J7.out.bt
  have cB7 : ∀ i, W7.cell? ⟨w.heap.size + 1, i, none⟩ = (#[.string r, .slice none 0 0, .slice none 0 0, .slice none 0 0, .slice none 0 0, .slice none 0 0, .slice none 0 0, .slice none 0 0, .slice none 0 0] : Array Value)[i]? := box_cells J7.out.bx
  have fB7 := frozen_box J7.out.bx
  go_wp2_with fail
  have J7s : BxJ C n w s2 35 [.string r, .slice none 0 0, .slice none 0 0, .slice none 0 0, .slice none 0 0, .slice none 0 0, .slice none 0 0, .slice none 0 0, .slice none 0 0] (W7.setCell ⟨w.heap.size + 1, 6, none⟩ (.slice none 0 0)) := J7.out.set 6 (.slice none 0 0)
  have H7s := Lib.hid J7s
  clear J7s
  refine (turnNil_94 _ _).mono ?_
  rintro e W8 ⟨rfl, hw⟩
  have J8 : Hid (BxJ C n w s2 35 [.string r, .slice none 0 0, .slice none 0 0, .slice none 0 0, .slice none 0 0, .slice none 0 0, .slice none 0 0, .slice none 0 0, .slice none 0 0] W8) := by rw [← hw]; exact H7s.out
  clear hw cA7 cB7 fB7
  have cA8 := box_cells J8.out.bt
  have cB8 : ∀ i, W8.cell? ⟨w.heap.size + 1, i, none⟩ = (#[.string r, .slice none 0 0, .slice none 0 0, .slice none 0 0, .slice none 0 0, .slice none 0 0, .slice none 0 0, .slice none 0 0, .slice none 0 0] : Array Value)[i]? := box_cells J8.out.bx
  have fB8 := frozen_box J8.out.bx
  go_wp2_with fail
  have J8s : BxJ C n w s2 35 [.string r, .slice none 0 0, .slice none 0 0, .slice none 0 0, .slice none 0 0, .slice none 0 0, .slice none 0 0, .slice none 0 0, .slice none 0 0] (W8.setCell ⟨w.heap.size + 1, 7, none⟩ (.slice none 0 0)) := J8.out.set 7 (.slice none 0 0)
  have H8s := Lib.hid J8s
  clear J8s
  refine (tnotesNil g c1 c2 _).mono ?_
  rintro e W9 ⟨rfl, b⟩
  have J9 := Lib.hid (H8s.out.below b)
  clear b cA8 cB8 fB8
  have cA9 := box_cells J9.out.bt
  have cB9 : ∀ i, W9.cell? ⟨w.heap.size + 1, i, none⟩ = (#[.string r, .slice none 0 0, .slice none 0 0, .slice none 0 0, .slice none 0 0, .slice none 0 0, .slice none 0 0, .slice none 0 0, .slice none 0 0] : Array Value)[i]? := box_cells J9.out.bx
  have fB9 := frozen_box J9.out.bx
  have JL : BxJ C n w s2 35 [.string r, .slice none 0 0, .slice none 0 0, .slice none 0 0, .slice none 0 0, .slice none 0 0, .slice none 0 0, .slice none 0 0, .slice none 0 0] (W9.setCell ⟨w.heap.size + 1, 8, none⟩ (.slice none 0 0)) := J9.out.set 8 (.slice none 0 0)
  have HL := Lib.hid JL
  have CL := Lib.hid (show ∀ (i : Nat) (v : Value), ([.string r, .slice none 0 0, .slice none 0 0, .slice none 0 0, .slice none 0 0, .slice none 0 0, .slice none 0 0, .slice none 0 0, .slice none 0 0] : List Value)[i]? = some v → (W9.setCell ⟨w.heap.size + 1, 8, none⟩ (.slice none 0 0)).cell? ⟨w.heap.size + 1, 0 + i, none⟩ = some v from fun i v hv => by rw [box_cells JL.bx, Nat.zero_add]; simpa using hv)
  obtain ⟨zs, z1, z2⟩ := JL.br
  have Z1 := Lib.hid (show zs.length = 9 from z1)
  have LN := Lib.hid (show ([.string r, .slice none 0 0, .slice none 0 0, .slice none 0 0, .slice none 0 0, .slice none 0 0, .slice none 0 0, .slice none 0 0, .slice none 0 0] : List Value).length = 9 from rfl)
  have ON := Lib.hid (show ∀ v ∈ ([.string r, .slice none 0 0, .slice none 0 0, .slice none 0 0, .slice none 0 0, .slice none 0 0, .slice none 0 0, .slice none 0 0, .slice none 0 0] : List Value), v.oneCell' = true by intro v hv; simp at hv; rcases hv with rfl | rfl <;> rfl)
  have Z2 := Lib.hid z2
  clear JL z1 z2
  go_wp2_with (first
    | ((with_reducible refine wp_loadAgg (o := ⟨some 54, _, _, _, _, _⟩) rfl (.tmp 3) 35 rfl 9 Tryz.isAgg35 Tryz.sizeOf35 (w.heap.size + 1) 0 ?_ [.string r, .slice none 0 0, .slice none 0 0, .slice none 0 0, .slice none 0 0, .slice none 0 0, .slice none 0 0, .slice none 0 0, .slice none 0 0] LN.out CL.out ?_); rfl)
    | ((with_reducible refine wp_storeOld (o := ⟨none, .store 35 (.tmp 4) (.tmp 54), _, _, _, _⟩) rfl (.tmp 4) (.tmp 54) 35 rfl 9 Tryz.sizeOf35 (w.heap.size + 2) zs Z1.out 35 Z2.out ?_ [.string r, .slice none 0 0, .slice none 0 0, .slice none 0 0, .slice none 0 0, .slice none 0 0, .slice none 0 0, .slice none 0 0, .slice none 0 0] ?_ LN.out ON.out ?_); rfl; rfl))
  refine bodyPost_ret (v := .agg ⟨[.string r, .slice none 0 0, .slice none 0 0, .slice none 0 0, .slice none 0 0, .slice none 0 0, .slice none 0 0, .slice none 0 0, .slice none 0 0]⟩) ?_ rfl ?_
  · exact results_cell (i := 4) (b := w.heap.size + 2) Tryz.results51 Tryz.isAgg35 Tryz.sizeOf35 rfl rfl HL.out.last.1
  · exact ⟨by rw [HRR.out], by rw [HS2.out]; exact HL.out.last.2.1, HL.out.last.2.2⟩
end Go.Proofs.YtciijpahjjoppaaGreat
end
section
namespace Go.Proofs.YtciijpahjjoppaaGreat
open Go.RowKit Go.Deep Go.Shelf Go.Maps

theorem Kept.toBelow {O : World → Nat → Prop} {hi n : Nat} {w w' W : World} (h : Kept O hi w w') (b : Below n W w) (hn : n ≤ W.heap.size) (hO : ∀ c, c < n → ¬ O w c) : Below n W w' :=
  ⟨h.os.trans b.os, h.tape.trans b.tape, h.output.trans b.output, Nat.le_trans b.size h.size, fun c hc => (h.block c (Nat.lt_of_lt_of_le (by omega) b.size) (hO c hc)).trans (b.block c hc)⟩
theorem namesW0 (w : World) (A : Obj) (F : Array Value) (n : Nat) (hn : n ≤ 3000000) : NamesI (w.heap.size + 1) n [] (((((w.alloc A).alloc (.cells #[.slice none 0 0] 29)).alloc (.map #[] 0)).alloc (.cells #[.map (some (w.heap.size + 1 + 1))] 92)).alloc (.cells F 97)) := by
  obtain ⟨w1, e1⟩ : ∃ w1, w1 = w.alloc A := ⟨_, rfl⟩
  obtain ⟨w2, e2⟩ : ∃ w2, w2 = w1.alloc (.cells #[.slice none 0 0] 29) := ⟨_, rfl⟩
  obtain ⟨w3, e3⟩ : ∃ w3, w3 = w2.alloc (.map #[] 0) := ⟨_, rfl⟩
  obtain ⟨w4, e4⟩ : ∃ w4, w4 = w3.alloc (.cells #[.map (some (w.heap.size + 1 + 1))] 92) := ⟨_, rfl⟩
  obtain ⟨w5, e5⟩ : ∃ w5, w5 = w4.alloc (.cells F 97) := ⟨_, rfl⟩
  rw [← e1, ← e2, ← e3, ← e4, ← e5]
  have z1 : w1.heap.size = w.heap.size + 1 := by rw [e1, World.size_alloc]
  have z2 : w2.heap.size = w.heap.size + 2 := by rw [e2, World.size_alloc, z1]
  have z3 : w3.heap.size = w.heap.size + 3 := by rw [e3, World.size_alloc, z2]
  have z4 : w4.heap.size = w.heap.size + 4 := by rw [e4, World.size_alloc, z3]
  have z5 : w5.heap.size = w.heap.size + 5 := by rw [e5, World.size_alloc, z4]
  have b3 : Below w2.heap.size w2 w3 := by rw [e3]; exact (Below.refl _ _).alloc (Nat.le_refl _) _
  have b4 : Below w3.heap.size w3 w4 := by rw [e4]; exact (Below.refl _ _).alloc (Nat.le_refl _) _
  have b5 : Below w4.heap.size w4 w5 := by rw [e5]; exact (Below.refl _ _).alloc (Nat.le_refl _) _
  have h2 : w2.heap[w.heap.size + 1]? = some (.cells #[.slice none 0 0] 29) := by rw [e2, ← z1]; exact heap_new _ _
  have h4 : w4.heap[w.heap.size + 3]? = some (.cells #[.map (some (w.heap.size + 1 + 1))] 92) := by rw [e4, ← z3]; exact heap_new _ _
  have hm : w3.ownsMap Tryz.prog 9 (unitElem (H := Unit)) (w.heap.size + 2) 0 (.map []) := by rw [e3, ← z2]; exact World.ownsMap_made _ _ _ _
  refine ⟨by omega, by simpa using hn, by simp, ownsMap_same hm ((b5.block _ (by omega)).trans (b4.block _ (by omega))), (b5.block _ (by omega)).trans h4, .slice none 0 0, ?_, World.ownsRow_nil _ _ _ _⟩
  exact ((b5.block _ (by omega)).trans ((b4.block _ (by omega)).trans (b3.block _ (by omega)))).trans h2
theorem below5 (w : World) (A B C D E : Obj) : Below w.heap.size w (((((w.alloc A).alloc B).alloc C).alloc D).alloc E) :=
  (((((Below.refl _ w).alloc (Nat.le_refl _) A).alloc (by simp) B).alloc (by simp; omega) C).alloc (by simp; omega) D).alloc (by simp; omega) E
theorem ownS_mono {b b' : Nat} {w : World} {v : Value} {ss : List ByteArray} (h : w.ownsRow b 9 1 v ss.length (ss.map Value.string)) (hb : b' ≤ b) : OwnS b' w v ss := by
  refine ⟨h.1, ?_⟩
  rcases h.2 with h4 | ⟨g, cap, cur, hv, hb', r⟩
  · exact .inl h4
  · exact .inr ⟨g, cap, cur, hv, Nat.le_trans hb hb', r⟩
/-- What Names leaves. -/
def NamPost (ns : List ByteArray) (w : World) (e : Ending) (w' : World) : Prop := ∃ v, e = .returned v ∧ OwnS w.heap.size w' v ns ∧ Below w.heap.size w w'
set_option maxRecDepth 100000 in
set_option maxHeartbeats 4000000 in
theorem namesEmp (nm : ByteArray) (w : World) (hs : nm.size ≤ lim) (hpl : (parts nm).length ≤ 3000000) : Calls Tryz.prog 19 #[.agg #[.string nm, .slice none 0 0, .slice none 0 0, .slice none 0 0, .slice none 0 0, .slice none 0 0, .slice none 0 0, .slice none 0 0, .slice none 0 0]] w (NamPost ((namClo (w.heap.size + 1)).nm [] nm).2 w) := by
  have hmm := @run_makeMap Tryz.prog
  go_enter Tryz.func19, Tryz.ntmps19
  have LN := Lib.hid (show ([.func (.func 50) #[] #[.pointer (some ⟨w.heap.size + 1 + 1 + 1, 0, none⟩), .pointer (some ⟨w.heap.size + 1, 0, none⟩)]] : List Value).length = 1 from rfl)
  have ON := Lib.hid (show ∀ v ∈ ([.func (.func 50) #[] #[.pointer (some ⟨w.heap.size + 1 + 1 + 1, 0, none⟩), .pointer (some ⟨w.heap.size + 1, 0, none⟩)]] : List Value), v.oneCell' = true by intro v hv; simp at hv; subst hv; rfl)
  go_wp2_with (first
    | ((with_reducible refine wp_storeNew (o := ⟨none, .store 97 (.tmp 5) (.tmp 8), _, _, _, _⟩) rfl (.tmp 5) (.tmp 8) 97 rfl 1 Tryz.sizeOf97 _ ?_ ?_ [.func (.func 50) #[] #[.pointer (some ⟨w.heap.size + 1 + 1 + 1, 0, none⟩), .pointer (some ⟨w.heap.size + 1, 0, none⟩)]] ?_ LN.out ON.out ?_); rfl; (simp only [World.size_alloc]; rfl); rfl))
  have I0 := Lib.hid (namesW0 w (.cells #[.string nm, .slice none 0 0, .slice none 0 0, .slice none 0 0, .slice none 0 0, .slice none 0 0, .slice none 0 0, .slice none 0 0, .slice none 0 0] 35) #[.func (.func 50) #[] #[.pointer (some ⟨w.heap.size + 1 + 1 + 1, 0, none⟩), .pointer (some ⟨w.heap.size + 1, 0, none⟩)]] (0 + (parts nm).length) (by omega))
  have B0 := Lib.hid (below5 w (.cells #[.string nm, .slice none 0 0, .slice none 0 0, .slice none 0 0, .slice none 0 0, .slice none 0 0, .slice none 0 0, .slice none 0 0, .slice none 0 0] 35) (.cells #[.slice none 0 0] 29) (.map #[] 0) (.cells #[.map (some (w.heap.size + 1 + 1))] 92) (.cells #[.func (.func 50) #[] #[.pointer (some ⟨w.heap.size + 1 + 1 + 1, 0, none⟩), .pointer (some ⟨w.heap.size + 1, 0, none⟩)]] 97))
  refine (turnEmp (namClo (w.heap.size + 1)) (.inl rfl) 0 [] nm _ I0.out hs).mono ?_
  rintro e W1 ⟨rfl, i1, k1⟩
  have B1 := Lib.hid (k1.toBelow B0.out (Nat.le_refl _) (fun c hc ho => by have := ((namClo (w.heap.size + 1)).ltO I0.out ho).1; have : w.heap.size + 1 ≤ c := this; omega))
  have I1 : NamesI (w.heap.size + 1) 0 ((namClo (w.heap.size + 1)).nm [] nm).2 W1 := i1
  obtain ⟨v, hv, hr⟩ := I1.row
  have HR := Lib.hid hr
  have cv := hv.cell
  clear I1 i1 k1 hr hv
  go_wp2_with fail
  go_ret
  exact ⟨v, rfl, ownS_mono HR.out (by omega), B1.out⟩

def renPart (ps : List (ByteArray × ByteArray)) (x : ByteArray) : ByteArray := if x.size = 0 then x else renOf ps x
def renName (ps : List (ByteArray × ByteArray)) (s : ByteArray) : ByteArray := joinD ((parts s).map (renPart ps))
theorem ren_pts (r : RenB) (l : List ByteArray) : (renClo r).pts () l = (l.map (renPart r.ps), ()) := by
  induction l with
  | nil => rfl
  | cons x l ih =>
    show (((renClo r).pt () x).1 :: ((renClo r).pts () l).1, ()) = _
    rw [ih]
    have : ((renClo r).pt () x).1 = renPart r.ps x := by
      unfold Clo.pt renPart
      split <;> rfl
    rw [this]
    rfl
theorem ren_nm (r : RenB) (s : ByteArray) : (renClo r).nm () s = (renName r.ps s, ()) := by
  unfold Clo.nm renName
  rw [ren_pts]
theorem renW0 (w w3 : World) (a : Option Addr) (len cap : Nat) (ps : List (ByteArray × ByteArray)) (F : Array Value) (hP : PairsAt w a len cap ps) (hl : w.heap.size + 4 ≤ w3.heap.size) (hb : ∀ b, b < w.heap.size → w3.heap[b]? = w.heap[b]?) (h1 : w3.heap[w.heap.size + 1]? = some (.cells #[.slice a len cap] 44)) (hm : ∃ D n, MapAt w3 (w.heap.size + 3) n D ∧ FirstD D ps) :
    RenI ⟨w.heap.size + 1, w.heap.size + 3, w3.heap.size, w.heap.size + 1, w3.heap.size + 2, a, len, cap, ps⟩ ((w3.alloc (.cells #[.map (some (w.heap.size + 3))] 106)).alloc (.cells F 97)) := by
  have b2 := ((Below.refl w3.heap.size w3).alloc (Nat.le_refl _) (.cells #[.map (some (w.heap.size + 3))] 106)).alloc (by simp) (.cells F 97)
  obtain ⟨D, n, hm1, hm2⟩ := hm
  refine ⟨⟨Nat.le_refl _, ?_⟩, ⟨?_, ?_⟩, ⟨?_, ?_⟩, ?_, (b2.block (w.heap.size + 1) (by omega)).trans h1, box_first w3 _ _, ⟨D, n, ownsMap_same hm1 (b2.block (w.heap.size + 3) (by omega)), hm2⟩, ?_, ?_⟩
  · show w.heap.size + 1 < w3.heap.size + 2; omega
  · show w.heap.size + 1 ≤ w.heap.size + 3; omega
  · show w.heap.size + 3 < w3.heap.size + 2; omega
  · show w.heap.size + 1 ≤ w3.heap.size; omega
  · show w3.heap.size < w3.heap.size + 2; omega
  · show w3.heap.size + 2 ≤ _; simp
  · exact hP.kept (by have := b2.size; omega) fun b hb' => (b2.block b (by omega)).trans (hb b hb')
  · intro b o e h0
    show b < w.heap.size + 1
    have e' : a = some ⟨b, o, none⟩ := e
    have h0' : 0 < len := h0
    rcases hP.2.2.2.2 with h | ⟨b', o', e2, hb', _⟩
    · omega
    · rw [e'] at e2
      cases e2
      omega
set_option maxRecDepth 100000 in
set_option maxHeartbeats 4000000 in
theorem renameEmp (nm : ByteArray) (a : Option Addr) (len cap : Nat) (ps : List (ByteArray × ByteArray)) (w : World) (hs : nm.size ≤ lim) (hP : PairsAt w a len cap ps) : Calls Tryz.prog 22 #[.agg #[.string nm, .slice none 0 0, .slice none 0 0, .slice none 0 0, .slice none 0 0, .slice none 0 0, .slice none 0 0, .slice none 0 0, .slice none 0 0], .slice a len cap] w fun e w' => e = .returned (.agg #[.string (renName ps nm), .slice none 0 0, .slice none 0 0, .slice none 0 0, .slice none 0 0, .slice none 0 0, .slice none 0 0, .slice none 0 0, .slice none 0 0]) ∧ Below w.heap.size w w' := by
  have HP := Lib.hid hP
  clear hP
  obtain ⟨w0, hw0⟩ : ∃ w0, w0 = ((w.alloc (.cells #[.string nm, .slice none 0 0, .slice none 0 0, .slice none 0 0, .slice none 0 0, .slice none 0 0, .slice none 0 0, .slice none 0 0, .slice none 0 0] 35)).alloc (.cells #[.slice a len cap] 44)).alloc (.cells #[.string ⟨#[]⟩, .slice none 0 0, .slice none 0 0, .slice none 0 0, .slice none 0 0, .slice none 0 0, .slice none 0 0, .slice none 0 0, .slice none 0 0] 35) := ⟨_, rfl⟩
  have B0 : Below w.heap.size w w0 := by rw [hw0]; exact (((Below.refl _ w).alloc (Nat.le_refl _) _).alloc (by simp) _).alloc (by simp; omega) _
  have z0 : w0.heap.size = w.heap.size + 3 := by rw [hw0]; simp
  have a3 := (Below.refl ((w.alloc (.cells #[.string nm, .slice none 0 0, .slice none 0 0, .slice none 0 0, .slice none 0 0, .slice none 0 0, .slice none 0 0, .slice none 0 0, .slice none 0 0] 35)).alloc (.cells #[.slice a len cap] 44)).heap.size ((w.alloc (.cells #[.string nm, .slice none 0 0, .slice none 0 0, .slice none 0 0, .slice none 0 0, .slice none 0 0, .slice none 0 0, .slice none 0 0, .slice none 0 0] 35)).alloc (.cells #[.slice a len cap] 44))).alloc (Nat.le_refl _) (.cells #[.string ⟨#[]⟩, .slice none 0 0, .slice none 0 0, .slice none 0 0, .slice none 0 0, .slice none 0 0, .slice none 0 0, .slice none 0 0, .slice none 0 0] 35)
  have k0 : w0.heap[w.heap.size]? = some (.cells #[.string nm, .slice none 0 0, .slice none 0 0, .slice none 0 0, .slice none 0 0, .slice none 0 0, .slice none 0 0, .slice none 0 0, .slice none 0 0] 35) := by rw [hw0]; exact (a3.block _ (by simp; omega)).trans (box_first w _ _)
  have k1 : w0.heap[w.heap.size + 1]? = some (.cells #[.slice a len cap] 44) := by rw [hw0]; exact (a3.block _ (by simp)).trans (box_second w _ _)
  have k2 : w0.heap[w.heap.size + 2]? = some (.cells #[.string ⟨#[]⟩, .slice none 0 0, .slice none 0 0, .slice none 0 0, .slice none 0 0, .slice none 0 0, .slice none 0 0, .slice none 0 0, .slice none 0 0] 35) := by
    have := heap_new ((w.alloc (.cells #[.string nm, .slice none 0 0, .slice none 0 0, .slice none 0 0, .slice none 0 0, .slice none 0 0, .slice none 0 0, .slice none 0 0, .slice none 0 0] 35)).alloc (.cells #[.slice a len cap] 44)) (.cells #[.string ⟨#[]⟩, .slice none 0 0, .slice none 0 0, .slice none 0 0, .slice none 0 0, .slice none 0 0, .slice none 0 0, .slice none 0 0, .slice none 0 0] 35)
    simp only [World.size_alloc] at this
    rw [hw0]
    exact this
  have HB0 := Lib.hid B0
  have Z0 := Lib.hid z0
  have K0 := Lib.hid k0
  have K1 := Lib.hid k1
  have K2 := Lib.hid k2
  have HW0 := Lib.hid hw0
  clear B0 z0 k0 k1 k2 a3 hw0
  go_enter Tryz.func22, Tryz.ntmps22
  go_wp2_with fail
  rw [← HW0.out]
  refine (firstOf_any a len cap ps w0 (HP.out.kept HB0.out.size fun b hb => HB0.out.block b hb)).mono ?_
  rw [Z0.out]
  rintro e w3 ⟨rfl, hm, b3⟩
  have S3 : w.heap.size + 4 ≤ w3.heap.size := by
    obtain ⟨D, n, h1, _⟩ := hm
    have hlt : w.heap.size + 3 < w3.heap.size := by
      have h1' : w3.ownsMap Tryz.prog 9 (plainElem Tryz.prog 3) (w.heap.size + 3) n D := h1
      unfold World.ownsMap at h1'
      obtain ⟨es, c, h2, _⟩ := h1'
      exact heap_lt h2
    omega
  have kp : w3.heap[w.heap.size]? = some (.cells #[.string nm, .slice none 0 0, .slice none 0 0, .slice none 0 0, .slice none 0 0, .slice none 0 0, .slice none 0 0, .slice none 0 0, .slice none 0 0] 35) := (b3.block _ (by omega)).trans K0.out
  have B3 := Lib.hid (show Below w.heap.size w w3 from HB0.out.trans (b3.mono (by omega)))
  have K13 := Lib.hid ((b3.block _ (show w.heap.size + 1 < w.heap.size + 3 by omega)).trans K1.out)
  have K23 := Lib.hid ((b3.block _ (show w.heap.size + 2 < w.heap.size + 3 by omega)).trans K2.out)
  have HM := Lib.hid hm
  have cp := box_cells kp
  have KP := Lib.hid kp
  clear hm b3 kp
  have LN := Lib.hid (show ([.func (.func 59) #[] #[.pointer (some ⟨w3.heap.size, 0, none⟩), .pointer (some ⟨w.heap.size + 1, 0, none⟩)]] : List Value).length = 1 from rfl)
  have ON := Lib.hid (show ∀ v ∈ ([.func (.func 59) #[] #[.pointer (some ⟨w3.heap.size, 0, none⟩), .pointer (some ⟨w.heap.size + 1, 0, none⟩)]] : List Value), v.oneCell' = true by intro v hv; simp at hv; subst hv; rfl)
  have b5 := ((Below.refl w3.heap.size w3).alloc (Nat.le_refl _) (.cells #[.map (some (w.heap.size + 3))] 106)).alloc (by simp) (.cells #[.func (.func 59) #[] #[.pointer (some ⟨w3.heap.size, 0, none⟩), .pointer (some ⟨w.heap.size + 1, 0, none⟩)]] 97)
  have C5 := Lib.hid (show ∀ (j : Nat) (v : Value), ([.string nm, .slice none 0 0, .slice none 0 0, .slice none 0 0, .slice none 0 0, .slice none 0 0, .slice none 0 0, .slice none 0 0, .slice none 0 0] : List Value)[j]? = some v → ((w3.alloc (.cells #[.map (some (w.heap.size + 3))] 106)).alloc (.cells #[.func (.func 59) #[] #[.pointer (some ⟨w3.heap.size, 0, none⟩), .pointer (some ⟨w.heap.size + 1, 0, none⟩)]] 97)).cell? ⟨w.heap.size, 0 + j, none⟩ = some v from fun j v hv => by
    rw [box_cells ((b5.block _ (heap_lt KP.out)).trans KP.out), Nat.zero_add]
    simpa using hv)
  have L9 := Lib.hid (show ([.string nm, .slice none 0 0, .slice none 0 0, .slice none 0 0, .slice none 0 0, .slice none 0 0, .slice none 0 0, .slice none 0 0, .slice none 0 0] : List Value).length = 9 from rfl)
  have I5 := Lib.hid (renW0 w w3 a len cap ps #[.func (.func 59) #[] #[.pointer (some ⟨w3.heap.size, 0, none⟩), .pointer (some ⟨w.heap.size + 1, 0, none⟩)]] HP.out S3 (fun b hb => B3.out.block b hb) K13.out HM.out)
  have B5 := Lib.hid (B3.out.trans (b5.mono B3.out.size))
  have K25 := Lib.hid ((b5.block _ (heap_lt K23.out)).trans K23.out)
  clear b5
  go_wp2_with (first
    | ((with_reducible refine wp_storeNew (o := ⟨none, .store 97 (.tmp 6) (.tmp 10), _, _, _, _⟩) rfl (.tmp 6) (.tmp 10) 97 rfl 1 Tryz.sizeOf97 _ ?_ ?_ [.func (.func 59) #[] #[.pointer (some ⟨w3.heap.size, 0, none⟩), .pointer (some ⟨w.heap.size + 1, 0, none⟩)]] ?_ LN.out ON.out ?_); rfl; (simp only [World.size_alloc]; rfl); rfl)
    | ((with_reducible refine wp_loadAgg (o := ⟨some 12, _, _, _, _, _⟩) rfl (.tmp 2) 35 rfl 9 Tryz.isAgg35 Tryz.sizeOf35 w.heap.size 0 ?_ [.string nm, .slice none 0 0, .slice none 0 0, .slice none 0 0, .slice none 0 0, .slice none 0 0, .slice none 0 0, .slice none 0 0, .slice none 0 0] L9.out C5.out ?_); rfl))
  refine (turnEmp (renClo ⟨w.heap.size + 1, w.heap.size + 3, w3.heap.size, w.heap.size + 1, w3.heap.size + 2, a, len, cap, ps⟩) (.inr rfl) 0 () nm _ I5.out hs).mono ?_
  rw [ren_nm]
  rintro e W6 ⟨rfl, _, k6⟩
  have hnO : ∀ c, c < w.heap.size ∨ c = w.heap.size + 2 → ¬ RenO ⟨w.heap.size + 1, w.heap.size + 3, w3.heap.size, w.heap.size + 1, w3.heap.size + 2, a, len, cap, ps⟩ ((w3.alloc (.cells #[.map (some (w.heap.size + 3))] 106)).alloc (.cells #[.func (.func 59) #[] #[.pointer (some ⟨w3.heap.size, 0, none⟩), .pointer (some ⟨w.heap.size + 1, 0, none⟩)]] 97)) c := fun c hc ho => by
    have ho' : c = w.heap.size + 1 ∨ c = w.heap.size + 3 ∨ c = w3.heap.size := ho
    omega
  have B6 := Lib.hid (k6.toBelow B5.out (Nat.le_refl _) (fun c hc => hnO c (.inl hc)))
  have K26 := Lib.hid ((k6.block (w.heap.size + 2) (heap_lt K25.out) (hnO _ (.inr rfl))).trans K25.out)
  clear hnO k6 cp
  have LZ := Lib.hid (show ([.string ⟨#[]⟩, .slice none 0 0, .slice none 0 0, .slice none 0 0, .slice none 0 0, .slice none 0 0, .slice none 0 0, .slice none 0 0, .slice none 0 0] : List Value).length = 9 from rfl)
  have LR := Lib.hid (show ([.string (renName ps nm), .slice none 0 0, .slice none 0 0, .slice none 0 0, .slice none 0 0, .slice none 0 0, .slice none 0 0, .slice none 0 0, .slice none 0 0] : List Value).length = 9 from rfl)
  have OR := Lib.hid (show ∀ v ∈ ([.string (renName ps nm), .slice none 0 0, .slice none 0 0, .slice none 0 0, .slice none 0 0, .slice none 0 0, .slice none 0 0, .slice none 0 0, .slice none 0 0] : List Value), v.oneCell' = true by intro v hv; simp at hv; rcases hv with rfl | rfl <;> rfl)
  go_wp2_with (first
    | ((with_reducible refine wp_storeOld (o := ⟨none, .store 35 (.tmp 4) (.tmp 13), _, _, _, _⟩) rfl (.tmp 4) (.tmp 13) 35 rfl 9 Tryz.sizeOf35 (w.heap.size + 2) [.string ⟨#[]⟩, .slice none 0 0, .slice none 0 0, .slice none 0 0, .slice none 0 0, .slice none 0 0, .slice none 0 0, .slice none 0 0, .slice none 0 0] LZ.out 35 K26.out ?_ [.string (renName ps nm), .slice none 0 0, .slice none 0 0, .slice none 0 0, .slice none 0 0, .slice none 0 0, .slice none 0 0, .slice none 0 0, .slice none 0 0] ?_ LR.out OR.out ?_); rfl; rfl))
  refine bodyPost_ret (v := .agg ⟨[.string (renName ps nm), .slice none 0 0, .slice none 0 0, .slice none 0 0, .slice none 0 0, .slice none 0 0, .slice none 0 0, .slice none 0 0, .slice none 0 0]⟩) ?_ rfl ?_
  · exact results_cell (i := 4) (b := w.heap.size + 2) Tryz.results22 Tryz.isAgg35 Tryz.sizeOf35 rfl rfl (setCells_heap [.string (renName ps nm), .slice none 0 0, .slice none 0 0, .slice none 0 0, .slice none 0 0, .slice none 0 0, .slice none 0 0, .slice none 0 0, .slice none 0 0] [] [.string ⟨#[]⟩, .slice none 0 0, .slice none 0 0, .slice none 0 0, .slice none 0 0, .slice none 0 0, .slice none 0 0, .slice none 0 0, .slice none 0 0] W6 _ K26.out rfl)
  · refine ⟨rfl, ?_⟩
    have ho := setCells_os [.string (renName ps nm), .slice none 0 0, .slice none 0 0, .slice none 0 0, .slice none 0 0, .slice none 0 0, .slice none 0 0, .slice none 0 0, .slice none 0 0] W6 (w.heap.size + 2) 0
    exact ⟨ho.1.trans B6.out.os, ho.2.1.trans B6.out.tape, ho.2.2.trans B6.out.output, by rw [setCells_size]; exact B6.out.size, fun k hk => (setCells_other _ W6 _ 0 k (by omega)).trans (B6.out.block k hk)⟩
end Go.Proofs.YtciijpahjjoppaaGreat
end
section
namespace Go.Proofs.YtciijpahjjoppaaGreat
open Go.RowKit Go.Deep Go.Shelf Go.Maps

def gatherL (s : List ByteArray) (l : List ByteArray) : List ByteArray := l.foldl (fun s x => if x.size = 0 then s else addName s x) s
theorem nam_pts (b0 : Nat) (s l : List ByteArray) : (namClo b0).pts s l = (l, gatherL s l) := by
  induction l generalizing s with
  | nil => rfl
  | cons x l ih =>
    show (((namClo b0).pt s x).1 :: ((namClo b0).pts ((namClo b0).pt s x).2 l).1, ((namClo b0).pts ((namClo b0).pt s x).2 l).2) = _
    rw [ih]
    have e1 : ((namClo b0).pt s x).1 = x := by unfold Clo.pt; split <;> rfl
    have e2 : ((namClo b0).pt s x).2 = if x.size = 0 then s else addName s x := by unfold Clo.pt; split <;> rfl
    rw [e1, e2]
    rfl
theorem nam_nm (b0 : Nat) (s : List ByteArray) (x : ByteArray) : ((namClo b0).nm s x).2 = gatherL s (parts x) := by
  unfold Clo.nm
  rw [nam_pts]
theorem ok_p : okName 0 ⟨#[112]⟩ = true := by decide +kernel
theorem ok_begin : okName 0 ⟨#[98, 101, 103, 105, 110]⟩ = false := by decide +kernel
theorem ren_p : renName [(⟨#[112]⟩, ⟨#[113]⟩)] ⟨#[112]⟩ = ⟨#[113]⟩ := by decide +kernel
theorem gat_p : gatherL [] (parts ⟨#[112]⟩) = [⟨#[112]⟩] := by decide +kernel
theorem gat_q : gatherL [] (parts ⟨#[113]⟩) = [⟨#[113]⟩] := by decide +kernel
theorem names_p (w : World) : Calls Tryz.prog 19 #[.agg #[.string ⟨#[112]⟩, .slice none 0 0, .slice none 0 0, .slice none 0 0, .slice none 0 0, .slice none 0 0, .slice none 0 0, .slice none 0 0, .slice none 0 0]] w (NamPost [⟨#[112]⟩] w) := by
  have := namesEmp ⟨#[112]⟩ w (by decide) (by decide +kernel)
  rw [nam_nm, gat_p] at this
  exact this
theorem names_q (w : World) : Calls Tryz.prog 19 #[.agg #[.string ⟨#[113]⟩, .slice none 0 0, .slice none 0 0, .slice none 0 0, .slice none 0 0, .slice none 0 0, .slice none 0 0, .slice none 0 0, .slice none 0 0]] w (NamPost [⟨#[113]⟩] w) := by
  have := namesEmp ⟨#[113]⟩ w (by decide) (by decide +kernel)
  rw [nam_nm, gat_q] at this
  exact this
theorem pairs_one (w : World) : PairsAt (w.alloc (.cells #[.string ⟨#[112]⟩, .string ⟨#[113]⟩] 47)) (some ⟨w.heap.size, 0, none⟩) 1 1 [(⟨#[112]⟩, ⟨#[113]⟩)] := by
  refine ⟨rfl, Nat.le_refl _, by decide, fun p hp => ?_, .inr ⟨w.heap.size, 0, rfl, by simp, fun j p hp => ?_⟩⟩
  · obtain rfl := List.mem_singleton.1 hp
    exact ⟨by decide, by decide⟩
  · have hj : j = 0 := by
      have := (List.getElem?_eq_some_iff.1 hp).1
      simp at this
      exact this
    subst hj
    obtain rfl : (⟨#[112]⟩, ⟨#[113]⟩) = p := by simpa using hp
    rw [box_cells (heap_new w _), box_cells (heap_new w _)]
    exact ⟨rfl, rfl⟩
theorem rename_p (w : World) (n : Nat) (hn : w.heap.size = n) : Calls Tryz.prog 22 #[.agg #[.string ⟨#[112]⟩, .slice none 0 0, .slice none 0 0, .slice none 0 0, .slice none 0 0, .slice none 0 0, .slice none 0 0, .slice none 0 0, .slice none 0 0], .slice (some ⟨n, 0, none⟩) 1 1] (w.alloc (.cells #[.string ⟨#[112]⟩, .string ⟨#[113]⟩] 47)) fun e w' => e = .returned (.agg #[.string ⟨#[113]⟩, .slice none 0 0, .slice none 0 0, .slice none 0 0, .slice none 0 0, .slice none 0 0, .slice none 0 0, .slice none 0 0, .slice none 0 0]) ∧ Below w.heap.size w w' := by
  subst hn
  refine (renameEmp ⟨#[112]⟩ _ 1 1 _ _ (by decide) (pairs_one w)).mono fun e w' ⟨h1, h2⟩ => ?_
  rw [ren_p] at h1
  exact ⟨h1, ((Below.refl _ w).alloc (Nat.le_refl _) _).trans (h2.mono (by simp))⟩
theorem texts_one (base : Nat) (w : World) (v : Value) (x : ByteArray) (h : OwnS base w v [x]) (hx : x.size ≤ maxLen) (n : Nat) (hn : w.heap[n]? = some (.cells #[.string x] 9)) : Calls Tryz.prog 18 #[v, .slice (some ⟨n, 0, none⟩) 1 1] w fun e w' => e = .returned (.bool true) ∧ Below w.heap.size w w' := by
  obtain ⟨a, cap, rfl, hS⟩ := h.strs (fun y hy => by rw [List.mem_singleton.1 hy]; exact hx)
  have hL : IsStrs w (some ⟨n, 0, none⟩) 1 1 [x] := isStrs_row (ss := [x]) hn (show 1 ≤ maxLen by decide) (fun y hy => by rw [List.mem_singleton.1 hy]; exact hx)
  refine (sameTexts_any a _ 1 cap 1 1 [x] [x] w hS hL).mono fun e w' ⟨h1, q, h2⟩ => ?_
  rw [sameL_refl] at h1
  subst h2
  exact ⟨h1, below_drewN (Below.refl _ _) q⟩

set_option maxRecDepth 100000 in
set_option maxHeartbeats 4000000 in
theorem awake_any (w : World) : Calls Tryz.prog 11 #[] w fun e w' => e = .returned (.bool true) ∧ Below w.heap.size w w' := by
  go_enter Tryz.func11, Tryz.ntmps11
  go_wp2_with fail
  with_reducible refine (rename_p (w.alloc (.cells #[.string ⟨#[112]⟩, .slice none 0 0, .slice none 0 0, .slice none 0 0, .slice none 0 0, .slice none 0 0, .slice none 0 0, .slice none 0 0, .slice none 0 0] 35)) (w.heap.size + 1) (World.size_alloc _ _)).mono ?_
  rintro e w1 ⟨rfl, b1⟩
  have b0 := (Below.refl w.heap.size w).alloc (Nat.le_refl _) (.cells #[.string ⟨#[112]⟩, .slice none 0 0, .slice none 0 0, .slice none 0 0, .slice none 0 0, .slice none 0 0, .slice none 0 0, .slice none 0 0, .slice none 0 0] 35)
  have R1 := Lib.hid (b0.trans (b1.mono b0.size))
  have K1 := Lib.hid ((b1.block w.heap.size (by simp)).trans (heap_new w (.cells #[.string ⟨#[112]⟩, .slice none 0 0, .slice none 0 0, .slice none 0 0, .slice none 0 0, .slice none 0 0, .slice none 0 0, .slice none 0 0, .slice none 0 0] 35)))
  have c1 := box_cells K1.out
  clear b0 b1
  have a2 := (Below.refl w1.heap.size w1).alloc (Nat.le_refl _) (.cells #[.string ⟨#[113]⟩, .slice none 0 0, .slice none 0 0, .slice none 0 0, .slice none 0 0, .slice none 0 0, .slice none 0 0, .slice none 0 0, .slice none 0 0] 35)
  have R2 := Lib.hid (R1.out.trans (a2.mono R1.out.size))
  have KP2 := Lib.hid ((a2.block _ (heap_lt K1.out)).trans K1.out)
  have KQ2 := Lib.hid (heap_new w1 (.cells #[.string ⟨#[113]⟩, .slice none 0 0, .slice none 0 0, .slice none 0 0, .slice none 0 0, .slice none 0 0, .slice none 0 0, .slice none 0 0, .slice none 0 0] 35))
  have cp2 := box_cells KP2.out
  clear a2 c1
  go_wp2_with fail
  with_reducible refine (checkEmp_yes ⟨#[112]⟩ _ (by decide) ok_p).mono ?_
  rintro e w3 ⟨rfl, b3⟩
  have R3 := Lib.hid (R2.out.trans (b3.mono R2.out.size))
  have KP3 := Lib.hid ((b3.block _ (heap_lt KP2.out)).trans KP2.out)
  have KQ3 := Lib.hid ((b3.block _ (heap_lt KQ2.out)).trans KQ2.out)
  have cp3 := box_cells KP3.out
  clear b3 cp2
  go_wp2_with fail
  with_reducible refine (names_p _).mono ?_
  rintro e w4 ⟨v, rfl, o4, b4⟩
  have R4 := Lib.hid (R3.out.trans (b4.mono R3.out.size))
  have KQ4 := Lib.hid ((b4.block _ (heap_lt KQ3.out)).trans KQ3.out)
  have O4 := Lib.hid o4
  clear b4 cp3 o4
  go_wp2_with fail
  have a5 := (Below.refl w4.heap.size w4).alloc (Nat.le_refl _) (.cells #[.string ⟨#[112]⟩] 9)
  with_reducible refine (texts_one _ _ v ⟨#[112]⟩ (O4.out.below a5) (by decide) _ (heap_new w4 _)).mono ?_
  rintro e w5 ⟨rfl, b5⟩
  have b5' := a5.trans (b5.mono a5.size)
  have R5 := Lib.hid (R4.out.trans (b5'.mono R4.out.size))
  have KQ5 := Lib.hid ((b5'.block _ (heap_lt KQ4.out)).trans KQ4.out)
  have cq5 := box_cells KQ5.out
  clear b5 b5' a5
  go_wp2_with fail
  with_reducible refine (names_q _).mono ?_
  rintro e w6 ⟨v6, rfl, o6, b6⟩
  have R6 := Lib.hid (R5.out.trans (b6.mono R5.out.size))
  have O6 := Lib.hid o6
  clear b6 o6 cq5
  go_wp2_with fail
  have a7 := (Below.refl w6.heap.size w6).alloc (Nat.le_refl _) (.cells #[.string ⟨#[113]⟩] 9)
  with_reducible refine (texts_one _ _ v6 ⟨#[113]⟩ (O6.out.below a7) (by decide) _ (heap_new w6 _)).mono ?_
  rintro e w7 ⟨rfl, b7⟩
  have b7' := a7.trans (b7.mono a7.size)
  have R7 := Lib.hid (R6.out.trans (b7'.mono R6.out.size))
  clear b7 b7' a7
  go_wp2_with fail
  with_reducible refine (checkEmp_no ⟨#[98, 101, 103, 105, 110]⟩ _ (by decide) ok_begin).mono ?_
  rintro e w8 ⟨rfl, b8⟩
  have R8 := Lib.hid (R7.out.trans (b8.mono R7.out.size))
  clear b8
  go_wp2_with fail
  go_ret
  exact ⟨rfl, R8.out⟩
end Go.Proofs.YtciijpahjjoppaaGreat
end
section
namespace Go.Proofs.YtciijpahjjoppaaGreat
open Go.RowKit Go.Deep Go.Maps Go.Sort

set_option maxRecDepth 100000 in
set_option maxHeartbeats 4000000 in
theorem refCheck_no (d : Int) (hd : knows d = false) (w : World) (x : List D) (hx : ShG x) (w0 : World) (vs : List Value) (hv : AllAt w0 vs x) :
    Calls Tryz.prog 13 #[.int .i64 d, .agg ⟨vs⟩] w fun e w' => e = .returned (.bool false) ∧ Below w.heap.size w w' := by
  obtain ⟨nm, be, mi, af, rc, vr, rt, bd, en, bea, bec, mia, mic, afa, afc, rca, rcc, vra, vrc, rta, rtc, bda, bdc, ena, enc, hxe, rfl, _⟩ := hv.openG hx
  have hd2 : ((d != 0) && (d != 1)) = true := by
    unfold knows at hd
    simp only [Bool.or_eq_false_iff] at hd
    rw [bne, bne, hd.1, hd.2]; rfl
  have h0 : (d != 0) = true := by simp only [Bool.and_eq_true] at hd2; exact hd2.1
  have h1 : (d != 1) = true := by simp only [Bool.and_eq_true] at hd2; exact hd2.2
  have S0 := Lib.hid (Bx1.start w (.cells #[.string nm, .slice bea be.length bec, .slice mia mi.length mic, .slice afa af.length afc, .slice rca rc.length rcc, .slice vra vr.length vrc, .slice rta rt.length rtc, .slice bda bd.length bdc, .slice ena en.length enc] 35))
  clear hd hv hx hxe
  go_enter Tryz.func13, Tryz.ntmps13
  go_wp2_with fail
  go_ret
  exact ⟨rfl, S0.out.bel⟩
theorem refCheckProg_any (w0 : World) (d : Int) (x : List D) (vs : List Value) (hx : ShG x) (hb : mRow x ≤ 2000000) (hv : AllAt w0 vs x) (w : World) (hW : Below w0.heap.size w0 w) :
    Calls Tryz.prog 13 #[.int .i64 d, .agg ⟨vs⟩] w fun e w' => e = .returned (.bool (chkG d x)) ∧ Below w.heap.size w w' := by
  cases hkn : knows d with
  | false =>
    have h := refCheck_no d hkn w x hx w0 vs hv
    rwa [show chkG d x = false by unfold chkG; rw [hkn]; rfl]
  | true =>
    have hd := knows_or hkn
    rw [show chkG d x = okG d x by unfold chkG; rw [hkn]; rfl]
    obtain ⟨nm, be, mi, af, rc, vr, rt, bd, en, bea, bec, mia, mic, afa, afc, rca, rcc, vra, vrc, rta, rtc, bda, bdc, ena, enc, rfl, rfl, i0, a_be, a_mi, a_af, a_rc, a_vr, a_rt, a_bd, a_en, t_be, t_mi, t_af, t_rc, t_vr, t_rt, t_bd, t_en⟩ := hv.openG hx
    simp only [mRow, mD] at hb
    exact refCheck_step w0 d hd nm be mi af rc vr rt bd en bea bec mia mic afa afc rca rcc vra vrc rta rtc bda bdc ena enc i0 a_be t_be a_mi t_mi a_af t_af a_rc t_rc a_vr t_vr a_en t_en (okRt d 48) (okS d 48) (fun W hW => refRoutines_any w0 d hd 48 1 rfl rta rt.length rtc rt a_rt t_rt (by omega) W hW) (fun W hW => refStmts_any w0 d 1 (okS d 48) bda bd.length bdc bd a_bd t_bd (fun y hy us hu U hU => refStmt_any w0 d hd 48 1 rfl y us (t_bd y hy) (by have := mRows_mem hy; omega) hu U hU) W hW) w hW
set_option maxRecDepth 100000 in
set_option maxHeartbeats 4000000 in
theorem treeChecks_walk (d : Int) (w : World) (x : List D) (hx : ShG x) (hb : mRow x ≤ 2000000) (vs : List Value) (hv : AllAt w vs x) :
    Calls Tryz.prog 4 #[.int .i64 d, .agg ⟨vs⟩] w fun e w' => e = .returned (.bool true) ∧ Below w.heap.size w w' := by
  have HC := Lib.hid (fun (W : World) (hW : Below w.heap.size w W) => checkProg_any w d x vs hx hv W hW)
  have HR := Lib.hid (fun (W : World) (hW : Below w.heap.size w W) => refCheckProg_any w d x vs hx hb hv W hW)
  obtain ⟨nm, be, mi, af, rc, vr, rt, bd, en, bea, bec, mia, mic, afa, afc, rca, rcc, vra, vrc, rta, rtc, bda, bdc, ena, enc, hxe, rfl, _⟩ := hv.openG hx
  clear hv hx hxe hb
  have R0 := Lib.hid ((Below.refl w.heap.size w).alloc (Nat.le_refl _) (.cells #[.string nm, .slice bea be.length bec, .slice mia mi.length mic, .slice afa af.length afc, .slice rca rc.length rcc, .slice vra vr.length vrc, .slice rta rt.length rtc, .slice bda bd.length bdc, .slice ena en.length enc] 35))
  have KP := Lib.hid (heap_new w (.cells #[.string nm, .slice bea be.length bec, .slice mia mi.length mic, .slice afa af.length afc, .slice rca rc.length rcc, .slice vra vr.length vrc, .slice rta rt.length rtc, .slice bda bd.length bdc, .slice ena en.length enc] 35))
  go_enter Tryz.func4, Tryz.ntmps4
  go_wp2_with fail
  refine (HC.out _ R0.out).mono ?_
  rintro e w1 ⟨rfl, b1⟩
  have R1 := Lib.hid (R0.out.trans (b1.mono R0.out.size))
  have c1 := box_cells ((b1.block _ (heap_lt KP.out)).trans KP.out)
  clear b1
  cases hr : chkG d x with
  | false =>
    rw [hr] at HR
    rw [show codeOf false = 1 from rfl]
    clear hr
    go_wp2_with fail
    refine (HR.out _ R1.out).mono ?_
    rintro e w2 ⟨rfl, b2⟩
    have R2 := Lib.hid (R1.out.trans (b2.mono R1.out.size))
    clear b2 c1
    go_wp2_with fail
    refine (awake_any _).mono ?_
    rintro e w3 ⟨rfl, b3⟩
    have R3 := Lib.hid (R2.out.trans (b3.mono R2.out.size))
    clear b3
    go_wp2_with fail
    go_ret
    exact ⟨rfl, R3.out⟩
  | true =>
    rw [hr] at HR
    rw [show codeOf true = 0 from rfl]
    clear hr
    go_wp2_with fail
    refine (HR.out _ R1.out).mono ?_
    rintro e w2 ⟨rfl, b2⟩
    have R2 := Lib.hid (R1.out.trans (b2.mono R1.out.size))
    clear b2 c1
    go_wp2_with fail
    refine (awake_any _).mono ?_
    rintro e w3 ⟨rfl, b3⟩
    have R3 := Lib.hid (R2.out.trans (b3.mono R2.out.size))
    clear b3
    go_wp2_with fail
    go_ret
    exact ⟨rfl, R3.out⟩
end Go.Proofs.YtciijpahjjoppaaGreat
end
