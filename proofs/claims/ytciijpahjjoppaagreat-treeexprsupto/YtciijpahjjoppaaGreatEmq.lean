/-
  A program without anything, turned: walked.
-/
import Derived.Test.YtciijpahjjoppaaGreatBxj
import Derived.Test.YtciijpahjjoppaaGreatEmp
namespace Go.Proofs.YtciijpahjjoppaaGreat
open Go.RowKit Go.Deep Go.Shelf
set_option maxRecDepth 100000 in
theorem turnNil_88 (f : Value) (w : World) : Calls Tryz.prog 88 #[.slice none 0 0, f] w fun e w' => e = .returned (.slice none 0 0) ∧ w = w' := by
  have hn := eql_nil Tryz.underlying30 none 0 0
  simp only [Option.isNone_none] at hn
  go_enter Tryz.func88, Tryz.ntmps88
  go_wp2_with fail
  go_ret
  exact ⟨rfl, rfl⟩
set_option maxRecDepth 100000 in
theorem turnNil_90 (f : Value) (w : World) : Calls Tryz.prog 90 #[.slice none 0 0, f] w fun e w' => e = .returned (.slice none 0 0) ∧ w = w' := by
  have hn := eql_nil Tryz.underlying31 none 0 0
  simp only [Option.isNone_none] at hn
  go_enter Tryz.func90, Tryz.ntmps90
  go_wp2_with fail
  go_ret
  exact ⟨rfl, rfl⟩
set_option maxRecDepth 100000 in
theorem turnNil_92 (f : Value) (w : World) : Calls Tryz.prog 92 #[.slice none 0 0, f] w fun e w' => e = .returned (.slice none 0 0) ∧ w = w' := by
  have hn := eql_nil Tryz.underlying32 none 0 0
  simp only [Option.isNone_none] at hn
  go_enter Tryz.func92, Tryz.ntmps92
  go_wp2_with fail
  go_ret
  exact ⟨rfl, rfl⟩
set_option maxRecDepth 100000 in
theorem turnNil_94 (f : Value) (w : World) : Calls Tryz.prog 94 #[.slice none 0 0, f] w fun e w' => e = .returned (.slice none 0 0) ∧ w = w' := by
  have hn := eql_nil Tryz.underlying33 none 0 0
  simp only [Option.isNone_none] at hn
  go_enter Tryz.func94, Tryz.ntmps94
  go_wp2_with fail
  go_ret
  exact ⟨rfl, rfl⟩
set_option maxRecDepth 100000 in
theorem turnNil_123 (f : Value) (w : World) : Calls Tryz.prog 123 #[.slice none 0 0, f] w fun e w' => e = .returned (.slice none 0 0) ∧ w = w' := by
  have hn := eql_nil Tryz.underlying29 none 0 0
  simp only [Option.isNone_none] at hn
  go_enter Tryz.func123, Tryz.ntmps123
  go_wp2_with fail
  go_ret
  exact ⟨rfl, rfl⟩
theorem tnotesNil (g : Nat) (c1 c2 : Value) (w : World) : Calls Tryz.prog 87 #[.agg #[.func (.func g) #[] #[c1, c2]], .slice none 0 0] w fun e w' => e = .returned (.slice none 0 0) ∧ Below w.heap.size w w' := by
  go_enter Tryz.func87, Tryz.ntmps87
  go_wp2_with fail
  refine (turnNil_123 _ _).mono ?_
  rintro e w1 ⟨rfl, rfl⟩
  go_wp2_with fail
  go_ret
  exact ⟨rfl, (Below.refl _ _).alloc (Nat.le_refl _) _⟩
theorem frozen_box {w : World} {n : Nat} {cs : Array Value} {t : TypeId} (h : w.heap[n]? = some (.cells cs t)) : ∀ i, w.frozen? ⟨n, i, none⟩ = false := fun i => by
  unfold World.frozen?
  simp [h]

set_option maxRecDepth 100000 in
set_option maxHeartbeats 4000000 in
theorem turnEmp {σ : Type} {g : Nat} {c1 c2 : Value} (C : Clo σ g c1 c2) (hg : g = 50 ∨ g = 59) (n : Nat) (st : σ) (nm : ByteArray) (w : World) (hI : C.I (n + (parts nm).length) st w) (hs : nm.size ≤ lim) :
    Calls Tryz.prog 51 #[.agg #[.func (.func g) #[] #[c1, c2]], .agg #[.string nm, .slice none 0 0, .slice none 0 0, .slice none 0 0, .slice none 0 0, .slice none 0 0, .slice none 0 0, .slice none 0 0, .slice none 0 0]] w fun e w' => e = .returned (.agg #[.string (C.nm st nm).1, .slice none 0 0, .slice none 0 0, .slice none 0 0, .slice none 0 0, .slice none 0 0, .slice none 0 0, .slice none 0 0, .slice none 0 0]) ∧ C.I n (C.nm st nm).2 w' ∧ Kept C.O C.hi w w' := by
  have J0 := Lib.hid (BxJ.start C (T := 35) (cs := #[.string nm, .slice none 0 0, .slice none 0 0, .slice none 0 0, .slice none 0 0, .slice none 0 0, .slice none 0 0, .slice none 0 0, .slice none 0 0]) (zs := #[.string ⟨#[]⟩, .slice none 0 0, .slice none 0 0, .slice none 0 0, .slice none 0 0, .slice none 0 0, .slice none 0 0, .slice none 0 0, .slice none 0 0]) rfl hI)
  have HG := Lib.hid hg
  clear hI hg
  go_enter Tryz.func51, Tryz.ntmps51
  go_wp2_with fail
  refine (name_any C HG.out n st nm _ J0.out.i hs).mono ?_
  rintro e W1 ⟨rfl, i1, k1⟩
  have J1 := Lib.hid (J0.out.called k1 i1)
  clear i1 k1
  generalize hr : (C.nm st nm).1 = r
  generalize hs2 : (C.nm st nm).2 = s2 at *
  have HRR := Lib.hid hr
  have HS2 := Lib.hid hs2
  clear hr hs2
  have cA1 := box_cells J1.out.bt
  have cB1 : ∀ i, W1.cell? ⟨w.heap.size + 1, i, none⟩ = (#[.string nm, .slice none 0 0, .slice none 0 0, .slice none 0 0, .slice none 0 0, .slice none 0 0, .slice none 0 0, .slice none 0 0, .slice none 0 0] : Array Value)[i]? := box_cells J1.out.bx
  have fB1 := frozen_box J1.out.bx
  go_wp2_with fail
  have J1s : BxJ C n w s2 35 [.string r, .slice none 0 0, .slice none 0 0, .slice none 0 0, .slice none 0 0, .slice none 0 0, .slice none 0 0, .slice none 0 0, .slice none 0 0] (W1.setCell ⟨w.heap.size + 1, 0, none⟩ (.string r)) := J1.out.set 0 (.string r)
  have H1s := Lib.hid J1s
  clear J1s
  refine (tnotesNil g c1 c2 _).mono ?_
  rintro e W2 ⟨rfl, b⟩
  have J2 := Lib.hid (H1s.out.below b)
  clear b cA1 cB1 fB1
  have cA2 := box_cells J2.out.bt
  have cB2 : ∀ i, W2.cell? ⟨w.heap.size + 1, i, none⟩ = (#[.string r, .slice none 0 0, .slice none 0 0, .slice none 0 0, .slice none 0 0, .slice none 0 0, .slice none 0 0, .slice none 0 0, .slice none 0 0] : Array Value)[i]? := box_cells J2.out.bx
  have fB2 := frozen_box J2.out.bx
  go_wp2_with fail
  have J2s : BxJ C n w s2 35 [.string r, .slice none 0 0, .slice none 0 0, .slice none 0 0, .slice none 0 0, .slice none 0 0, .slice none 0 0, .slice none 0 0, .slice none 0 0] (W2.setCell ⟨w.heap.size + 1, 1, none⟩ (.slice none 0 0)) := J2.out.set 1 (.slice none 0 0)
  have H2s := Lib.hid J2s
  clear J2s
  refine (tnotesNil g c1 c2 _).mono ?_
  rintro e W3 ⟨rfl, b⟩
  have J3 := Lib.hid (H2s.out.below b)
  clear b cA2 cB2 fB2
  have cA3 := box_cells J3.out.bt
  have cB3 : ∀ i, W3.cell? ⟨w.heap.size + 1, i, none⟩ = (#[.string r, .slice none 0 0, .slice none 0 0, .slice none 0 0, .slice none 0 0, .slice none 0 0, .slice none 0 0, .slice none 0 0, .slice none 0 0] : Array Value)[i]? := box_cells J3.out.bx
  have fB3 := frozen_box J3.out.bx
  go_wp2_with fail
  have J3s : BxJ C n w s2 35 [.string r, .slice none 0 0, .slice none 0 0, .slice none 0 0, .slice none 0 0, .slice none 0 0, .slice none 0 0, .slice none 0 0, .slice none 0 0] (W3.setCell ⟨w.heap.size + 1, 2, none⟩ (.slice none 0 0)) := J3.out.set 2 (.slice none 0 0)
  have H3s := Lib.hid J3s
  clear J3s
  refine (tnotesNil g c1 c2 _).mono ?_
  rintro e W4 ⟨rfl, b⟩
  have J4 := Lib.hid (H3s.out.below b)
  clear b cA3 cB3 fB3
  have cA4 := box_cells J4.out.bt
  have cB4 : ∀ i, W4.cell? ⟨w.heap.size + 1, i, none⟩ = (#[.string r, .slice none 0 0, .slice none 0 0, .slice none 0 0, .slice none 0 0, .slice none 0 0, .slice none 0 0, .slice none 0 0, .slice none 0 0] : Array Value)[i]? := box_cells J4.out.bx
  have fB4 := frozen_box J4.out.bx
  go_wp2_with fail
  have J4s : BxJ C n w s2 35 [.string r, .slice none 0 0, .slice none 0 0, .slice none 0 0, .slice none 0 0, .slice none 0 0, .slice none 0 0, .slice none 0 0, .slice none 0 0] (W4.setCell ⟨w.heap.size + 1, 3, none⟩ (.slice none 0 0)) := J4.out.set 3 (.slice none 0 0)
  have H4s := Lib.hid J4s
  clear J4s
  refine (turnNil_88 _ _).mono ?_
  rintro e W5 ⟨rfl, hw⟩
  have J5 : Hid (BxJ C n w s2 35 [.string r, .slice none 0 0, .slice none 0 0, .slice none 0 0, .slice none 0 0, .slice none 0 0, .slice none 0 0, .slice none 0 0, .slice none 0 0] W5) := by rw [← hw]; exact H4s.out
  clear hw cA4 cB4 fB4
  have cA5 := box_cells J5.out.bt
  have cB5 : ∀ i, W5.cell? ⟨w.heap.size + 1, i, none⟩ = (#[.string r, .slice none 0 0, .slice none 0 0, .slice none 0 0, .slice none 0 0, .slice none 0 0, .slice none 0 0, .slice none 0 0, .slice none 0 0] : Array Value)[i]? := box_cells J5.out.bx
  have fB5 := frozen_box J5.out.bx
  go_wp2_with fail
  have J5s : BxJ C n w s2 35 [.string r, .slice none 0 0, .slice none 0 0, .slice none 0 0, .slice none 0 0, .slice none 0 0, .slice none 0 0, .slice none 0 0, .slice none 0 0] (W5.setCell ⟨w.heap.size + 1, 4, none⟩ (.slice none 0 0)) := J5.out.set 4 (.slice none 0 0)
  have H5s := Lib.hid J5s
  clear J5s
  refine (turnNil_90 _ _).mono ?_
  rintro e W6 ⟨rfl, hw⟩
  have J6 : Hid (BxJ C n w s2 35 [.string r, .slice none 0 0, .slice none 0 0, .slice none 0 0, .slice none 0 0, .slice none 0 0, .slice none 0 0, .slice none 0 0, .slice none 0 0] W6) := by rw [← hw]; exact H5s.out
  clear hw cA5 cB5 fB5
  have cA6 := box_cells J6.out.bt
  have cB6 : ∀ i, W6.cell? ⟨w.heap.size + 1, i, none⟩ = (#[.string r, .slice none 0 0, .slice none 0 0, .slice none 0 0, .slice none 0 0, .slice none 0 0, .slice none 0 0, .slice none 0 0, .slice none 0 0] : Array Value)[i]? := box_cells J6.out.bx
  have fB6 := frozen_box J6.out.bx
  go_wp2_with fail
  have J6s : BxJ C n w s2 35 [.string r, .slice none 0 0, .slice none 0 0, .slice none 0 0, .slice none 0 0, .slice none 0 0, .slice none 0 0, .slice none 0 0, .slice none 0 0] (W6.setCell ⟨w.heap.size + 1, 5, none⟩ (.slice none 0 0)) := J6.out.set 5 (.slice none 0 0)
  have H6s := Lib.hid J6s
  clear J6s
  refine (turnNil_92 _ _).mono ?_
  rintro e W7 ⟨rfl, hw⟩
  have J7 : Hid (BxJ C n w s2 35 [.string r, .slice none 0 0, .slice none 0 0, .slice none 0 0, .slice none 0 0, .slice none 0 0, .slice none 0 0, .slice none 0 0, .slice none 0 0] W7) := by rw [← hw]; exact H6s.out
  clear hw cA6 cB6 fB6
  have cA7 := box_cells J7.out.bt
  have cB7 : ∀ i, W7.cell? ⟨w.heap.size + 1, i, none⟩ = (#[.string r, .slice none 0 0, .slice none 0 0, .slice none 0 0, .slice none 0 0, .slice none 0 0, .slice none 0 0, .slice none 0 0, .slice none 0 0] : Array Value)[i]? := box_cells J7.out.bx
  have fB7 := frozen_box J7.out.bx
  go_wp2_with fail
  have J7s : BxJ C n w s2 35 [.string r, .slice none 0 0, .slice none 0 0, .slice none 0 0, .slice none 0 0, .slice none 0 0, .slice none 0 0, .slice none 0 0, .slice none 0 0] (W7.setCell ⟨w.heap.size + 1, 6, none⟩ (.slice none 0 0)) := J7.out.set 6 (.slice none 0 0)
  have H7s := Lib.hid J7s
  clear J7s
  refine (turnNil_94 _ _).mono ?_
  rintro e W8 ⟨rfl, hw⟩
  have J8 : Hid (BxJ C n w s2 35 [.string r, .slice none 0 0, .slice none 0 0, .slice none 0 0, .slice none 0 0, .slice none 0 0, .slice none 0 0, .slice none 0 0, .slice none 0 0] W8) := by rw [← hw]; exact H7s.out
  clear hw cA7 cB7 fB7
  have cA8 := box_cells J8.out.bt
  have cB8 : ∀ i, W8.cell? ⟨w.heap.size + 1, i, none⟩ = (#[.string r, .slice none 0 0, .slice none 0 0, .slice none 0 0, .slice none 0 0, .slice none 0 0, .slice none 0 0, .slice none 0 0, .slice none 0 0] : Array Value)[i]? := box_cells J8.out.bx
  have fB8 := frozen_box J8.out.bx
  go_wp2_with fail
  have J8s : BxJ C n w s2 35 [.string r, .slice none 0 0, .slice none 0 0, .slice none 0 0, .slice none 0 0, .slice none 0 0, .slice none 0 0, .slice none 0 0, .slice none 0 0] (W8.setCell ⟨w.heap.size + 1, 7, none⟩ (.slice none 0 0)) := J8.out.set 7 (.slice none 0 0)
  have H8s := Lib.hid J8s
  clear J8s
  refine (tnotesNil g c1 c2 _).mono ?_
  rintro e W9 ⟨rfl, b⟩
  have J9 := Lib.hid (H8s.out.below b)
  clear b cA8 cB8 fB8
  have cA9 := box_cells J9.out.bt
  have cB9 : ∀ i, W9.cell? ⟨w.heap.size + 1, i, none⟩ = (#[.string r, .slice none 0 0, .slice none 0 0, .slice none 0 0, .slice none 0 0, .slice none 0 0, .slice none 0 0, .slice none 0 0, .slice none 0 0] : Array Value)[i]? := box_cells J9.out.bx
  have fB9 := frozen_box J9.out.bx
  have JL : BxJ C n w s2 35 [.string r, .slice none 0 0, .slice none 0 0, .slice none 0 0, .slice none 0 0, .slice none 0 0, .slice none 0 0, .slice none 0 0, .slice none 0 0] (W9.setCell ⟨w.heap.size + 1, 8, none⟩ (.slice none 0 0)) := J9.out.set 8 (.slice none 0 0)
  have HL := Lib.hid JL
  have CL := Lib.hid (show ∀ (i : Nat) (v : Value), ([.string r, .slice none 0 0, .slice none 0 0, .slice none 0 0, .slice none 0 0, .slice none 0 0, .slice none 0 0, .slice none 0 0, .slice none 0 0] : List Value)[i]? = some v → (W9.setCell ⟨w.heap.size + 1, 8, none⟩ (.slice none 0 0)).cell? ⟨w.heap.size + 1, 0 + i, none⟩ = some v from fun i v hv => by rw [box_cells JL.bx, Nat.zero_add]; simpa using hv)
  obtain ⟨zs, z1, z2⟩ := JL.br
  have Z1 := Lib.hid (show zs.length = 9 from z1)
  have LN := Lib.hid (show ([.string r, .slice none 0 0, .slice none 0 0, .slice none 0 0, .slice none 0 0, .slice none 0 0, .slice none 0 0, .slice none 0 0, .slice none 0 0] : List Value).length = 9 from rfl)
  have ON := Lib.hid (show ∀ v ∈ ([.string r, .slice none 0 0, .slice none 0 0, .slice none 0 0, .slice none 0 0, .slice none 0 0, .slice none 0 0, .slice none 0 0, .slice none 0 0] : List Value), v.oneCell' = true by intro v hv; simp at hv; rcases hv with rfl | rfl <;> rfl)
  have Z2 := Lib.hid z2
  clear JL z1 z2
  go_wp2_with (first
    | ((with_reducible refine wp_loadAgg (o := ⟨some 54, _, _, _, _, _⟩) rfl (.tmp 3) 35 rfl 9 Tryz.isAgg35 Tryz.sizeOf35 (w.heap.size + 1) 0 ?_ [.string r, .slice none 0 0, .slice none 0 0, .slice none 0 0, .slice none 0 0, .slice none 0 0, .slice none 0 0, .slice none 0 0, .slice none 0 0] LN.out CL.out ?_); rfl)
    | ((with_reducible refine wp_storeOld (o := ⟨none, .store 35 (.tmp 4) (.tmp 54), _, _, _, _⟩) rfl (.tmp 4) (.tmp 54) 35 rfl 9 Tryz.sizeOf35 (w.heap.size + 2) zs Z1.out 35 Z2.out ?_ [.string r, .slice none 0 0, .slice none 0 0, .slice none 0 0, .slice none 0 0, .slice none 0 0, .slice none 0 0, .slice none 0 0, .slice none 0 0] ?_ LN.out ON.out ?_); rfl; rfl))
  refine bodyPost_ret (v := .agg ⟨[.string r, .slice none 0 0, .slice none 0 0, .slice none 0 0, .slice none 0 0, .slice none 0 0, .slice none 0 0, .slice none 0 0, .slice none 0 0]⟩) ?_ rfl ?_
  · exact results_cell (i := 4) (b := w.heap.size + 2) Tryz.results51 Tryz.isAgg35 Tryz.sizeOf35 rfl rfl HL.out.last.1
  · exact ⟨by rw [HRR.out], by rw [HS2.out]; exact HL.out.last.2.1, HL.out.last.2.2⟩
end Go.Proofs.YtciijpahjjoppaaGreat
