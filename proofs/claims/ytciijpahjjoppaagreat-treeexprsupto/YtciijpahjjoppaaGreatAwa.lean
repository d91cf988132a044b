/-
  The document's example (awake): walked.
-/
import Derived.Test.YtciijpahjjoppaaGreatAwk
namespace Go.Proofs.YtciijpahjjoppaaGreat
open Go.RowKit Go.Deep Go.Shelf Go.Maps

def gatherL (s : List ByteArray) (l : List ByteArray) : List ByteArray := l.foldl (fun s x => if x.size = 0 then s else addName s x) s
theorem nam_pts (b0 : Nat) (s l : List ByteArray) : (namClo b0).pts s l = (l, gatherL s l) := by
  induction l generalizing s with
  | nil => rfl
  | cons x l ih =>
    show (((namClo b0).pt s x).1 :: ((namClo b0).pts ((namClo b0).pt s x).2 l).1, ((namClo b0).pts ((namClo b0).pt s x).2 l).2) = _
    rw [ih]
    have e1 : ((namClo b0).pt s x).1 = x := by unfold Clo.pt; split <;> rfl
    have e2 : ((namClo b0).pt s x).2 = if x.size = 0 then s else addName s x := by unfold Clo.pt; split <;> rfl
    rw [e1, e2]
    rfl
theorem nam_nm (b0 : Nat) (s : List ByteArray) (x : ByteArray) : ((namClo b0).nm s x).2 = gatherL s (parts x) := by
  unfold Clo.nm
  rw [nam_pts]
theorem ok_p : okName 0 ⟨#[112]⟩ = true := by decide +kernel
theorem ok_begin : okName 0 ⟨#[98, 101, 103, 105, 110]⟩ = false := by decide +kernel
theorem ren_p : renName [(⟨#[112]⟩, ⟨#[113]⟩)] ⟨#[112]⟩ = ⟨#[113]⟩ := by decide +kernel
theorem gat_p : gatherL [] (parts ⟨#[112]⟩) = [⟨#[112]⟩] := by decide +kernel
theorem gat_q : gatherL [] (parts ⟨#[113]⟩) = [⟨#[113]⟩] := by decide +kernel
theorem names_p (w : World) : Calls Tryz.prog 19 #[.agg #[.string ⟨#[112]⟩, .slice none 0 0, .slice none 0 0, .slice none 0 0, .slice none 0 0, .slice none 0 0, .slice none 0 0, .slice none 0 0, .slice none 0 0]] w (NamPost [⟨#[112]⟩] w) := by
  have := namesEmp ⟨#[112]⟩ w (by decide) (by decide +kernel)
  rw [nam_nm, gat_p] at this
  exact this
theorem names_q (w : World) : Calls Tryz.prog 19 #[.agg #[.string ⟨#[113]⟩, .slice none 0 0, .slice none 0 0, .slice none 0 0, .slice none 0 0, .slice none 0 0, .slice none 0 0, .slice none 0 0, .slice none 0 0]] w (NamPost [⟨#[113]⟩] w) := by
  have := namesEmp ⟨#[113]⟩ w (by decide) (by decide +kernel)
  rw [nam_nm, gat_q] at this
  exact this
theorem pairs_one (w : World) : PairsAt (w.alloc (.cells #[.string ⟨#[112]⟩, .string ⟨#[113]⟩] 47)) (some ⟨w.heap.size, 0, none⟩) 1 1 [(⟨#[112]⟩, ⟨#[113]⟩)] := by
  refine ⟨rfl, Nat.le_refl _, by decide, fun p hp => ?_, .inr ⟨w.heap.size, 0, rfl, by simp, fun j p hp => ?_⟩⟩
  · obtain rfl := List.mem_singleton.1 hp
    exact ⟨by decide, by decide⟩
  · have hj : j = 0 := by
      have := (List.getElem?_eq_some_iff.1 hp).1
      simp at this
      exact this
    subst hj
    obtain rfl : (⟨#[112]⟩, ⟨#[113]⟩) = p := by simpa using hp
    rw [box_cells (heap_new w _), box_cells (heap_new w _)]
    exact ⟨rfl, rfl⟩
theorem rename_p (w : World) (n : Nat) (hn : w.heap.size = n) : Calls Tryz.prog 22 #[.agg #[.string ⟨#[112]⟩, .slice none 0 0, .slice none 0 0, .slice none 0 0, .slice none 0 0, .slice none 0 0, .slice none 0 0, .slice none 0 0, .slice none 0 0], .slice (some ⟨n, 0, none⟩) 1 1] (w.alloc (.cells #[.string ⟨#[112]⟩, .string ⟨#[113]⟩] 47)) fun e w' => e = .returned (.agg #[.string ⟨#[113]⟩, .slice none 0 0, .slice none 0 0, .slice none 0 0, .slice none 0 0, .slice none 0 0, .slice none 0 0, .slice none 0 0, .slice none 0 0]) ∧ Below w.heap.size w w' := by
  subst hn
  refine (renameEmp ⟨#[112]⟩ _ 1 1 _ _ (by decide) (pairs_one w)).mono fun e w' ⟨h1, h2⟩ => ?_
  rw [ren_p] at h1
  exact ⟨h1, ((Below.refl _ w).alloc (Nat.le_refl _) _).trans (h2.mono (by simp))⟩
theorem texts_one (base : Nat) (w : World) (v : Value) (x : ByteArray) (h : OwnS base w v [x]) (hx : x.size ≤ maxLen) (n : Nat) (hn : w.heap[n]? = some (.cells #[.string x] 9)) : Calls Tryz.prog 18 #[v, .slice (some ⟨n, 0, none⟩) 1 1] w fun e w' => e = .returned (.bool true) ∧ Below w.heap.size w w' := by
  obtain ⟨a, cap, rfl, hS⟩ := h.strs (fun y hy => by rw [List.mem_singleton.1 hy]; exact hx)
  have hL : IsStrs w (some ⟨n, 0, none⟩) 1 1 [x] := isStrs_row (ss := [x]) hn (show 1 ≤ maxLen by decide) (fun y hy => by rw [List.mem_singleton.1 hy]; exact hx)
  refine (sameTexts_any a _ 1 cap 1 1 [x] [x] w hS hL).mono fun e w' ⟨h1, q, h2⟩ => ?_
  rw [sameL_refl] at h1
  subst h2
  exact ⟨h1, below_drewN (Below.refl _ _) q⟩

set_option maxRecDepth 100000 in
set_option maxHeartbeats 4000000 in
theorem awake_any (w : World) : Calls Tryz.prog 11 #[] w fun e w' => e = .returned (.bool true) ∧ Below w.heap.size w w' := by
  go_enter Tryz.func11, Tryz.ntmps11
  go_wp2_with fail
  with_reducible refine (rename_p (w.alloc (.cells #[.string ⟨#[112]⟩, .slice none 0 0, .slice none 0 0, .slice none 0 0, .slice none 0 0, .slice none 0 0, .slice none 0 0, .slice none 0 0, .slice none 0 0] 35)) (w.heap.size + 1) (World.size_alloc _ _)).mono ?_
  rintro e w1 ⟨rfl, b1⟩
  have b0 := (Below.refl w.heap.size w).alloc (Nat.le_refl _) (.cells #[.string ⟨#[112]⟩, .slice none 0 0, .slice none 0 0, .slice none 0 0, .slice none 0 0, .slice none 0 0, .slice none 0 0, .slice none 0 0, .slice none 0 0] 35)
  have R1 := Lib.hid (b0.trans (b1.mono b0.size))
  have K1 := Lib.hid ((b1.block w.heap.size (by simp)).trans (heap_new w (.cells #[.string ⟨#[112]⟩, .slice none 0 0, .slice none 0 0, .slice none 0 0, .slice none 0 0, .slice none 0 0, .slice none 0 0, .slice none 0 0, .slice none 0 0] 35)))
  have c1 := box_cells K1.out
  clear b0 b1
  have a2 := (Below.refl w1.heap.size w1).alloc (Nat.le_refl _) (.cells #[.string ⟨#[113]⟩, .slice none 0 0, .slice none 0 0, .slice none 0 0, .slice none 0 0, .slice none 0 0, .slice none 0 0, .slice none 0 0, .slice none 0 0] 35)
  have R2 := Lib.hid (R1.out.trans (a2.mono R1.out.size))
  have KP2 := Lib.hid ((a2.block _ (heap_lt K1.out)).trans K1.out)
  have KQ2 := Lib.hid (heap_new w1 (.cells #[.string ⟨#[113]⟩, .slice none 0 0, .slice none 0 0, .slice none 0 0, .slice none 0 0, .slice none 0 0, .slice none 0 0, .slice none 0 0, .slice none 0 0] 35))
  have cp2 := box_cells KP2.out
  clear a2 c1
  go_wp2_with fail
  with_reducible refine (checkEmp_yes ⟨#[112]⟩ _ (by decide) ok_p).mono ?_
  rintro e w3 ⟨rfl, b3⟩
  have R3 := Lib.hid (R2.out.trans (b3.mono R2.out.size))
  have KP3 := Lib.hid ((b3.block _ (heap_lt KP2.out)).trans KP2.out)
  have KQ3 := Lib.hid ((b3.block _ (heap_lt KQ2.out)).trans KQ2.out)
  have cp3 := box_cells KP3.out
  clear b3 cp2
  go_wp2_with fail
  with_reducible refine (names_p _).mono ?_
  rintro e w4 ⟨v, rfl, o4, b4⟩
  have R4 := Lib.hid (R3.out.trans (b4.mono R3.out.size))
  have KQ4 := Lib.hid ((b4.block _ (heap_lt KQ3.out)).trans KQ3.out)
  have O4 := Lib.hid o4
  clear b4 cp3 o4
  go_wp2_with fail
  have a5 := (Below.refl w4.heap.size w4).alloc (Nat.le_refl _) (.cells #[.string ⟨#[112]⟩] 9)
  with_reducible refine (texts_one _ _ v ⟨#[112]⟩ (O4.out.below a5) (by decide) _ (heap_new w4 _)).mono ?_
  rintro e w5 ⟨rfl, b5⟩
  have b5' := a5.trans (b5.mono a5.size)
  have R5 := Lib.hid (R4.out.trans (b5'.mono R4.out.size))
  have KQ5 := Lib.hid ((b5'.block _ (heap_lt KQ4.out)).trans KQ4.out)
  have cq5 := box_cells KQ5.out
  clear b5 b5' a5
  go_wp2_with fail
  with_reducible refine (names_q _).mono ?_
  rintro e w6 ⟨v6, rfl, o6, b6⟩
  have R6 := Lib.hid (R5.out.trans (b6.mono R5.out.size))
  have O6 := Lib.hid o6
  clear b6 o6 cq5
  go_wp2_with fail
  have a7 := (Below.refl w6.heap.size w6).alloc (Nat.le_refl _) (.cells #[.string ⟨#[113]⟩] 9)
  with_reducible refine (texts_one _ _ v6 ⟨#[113]⟩ (O6.out.below a7) (by decide) _ (heap_new w6 _)).mono ?_
  rintro e w7 ⟨rfl, b7⟩
  have b7' := a7.trans (b7.mono a7.size)
  have R7 := Lib.hid (R6.out.trans (b7'.mono R6.out.size))
  clear b7 b7' a7
  go_wp2_with fail
  with_reducible refine (checkEmp_no ⟨#[98, 101, 103, 105, 110]⟩ _ (by decide) ok_begin).mono ?_
  rintro e w8 ⟨rfl, b8⟩
  have R8 := Lib.hid (R7.out.trans (b8.mono R7.out.size))
  clear b8
  go_wp2_with fail
  go_ret
  exact ⟨rfl, R8.out⟩
end Go.Proofs.YtciijpahjjoppaaGreat
