/-
  Texts of this proof, put together.
-/
import Derived.Test.YtciijpahjjoppaaGreatPb6
import Derived.Test.YtciijpahjjoppaaGreatPb9
import Derived.Test.YtciijpahjjoppaaGreatPb11
import Derived.Laws.Concat
import Derived.Lib.ItoaMem
section
namespace Go.Proofs.YtciijpahjjoppaaGreat
open Go.RowKit Go.Deep Go.Shelf Go.Maps

def gatherL (s : List ByteArray) (l : List ByteArray) : List ByteArray := l.foldl (fun s x => if x.size = 0 then s else addName s x) s
theorem nam_pts (b0 : Nat) (s l : List ByteArray) : (namClo b0).pts s l = (l, gatherL s l) := by
  induction l generalizing s with
  | nil => rfl
  | cons x l ih =>
    show (((namClo b0).pt s x).1 :: ((namClo b0).pts ((namClo b0).pt s x).2 l).1, ((namClo b0).pts ((namClo b0).pt s x).2 l).2) = _
    rw [ih]
    have e1 : ((namClo b0).pt s x).1 = x := by unfold Clo.pt; split <;> rfl
    have e2 : ((namClo b0).pt s x).2 = if x.size = 0 then s else addName s x := by unfold Clo.pt; split <;> rfl
    rw [e1, e2]
    rfl
theorem nam_nm (b0 : Nat) (s : List ByteArray) (x : ByteArray) : ((namClo b0).nm s x).2 = gatherL s (parts x) := by
  unfold Clo.nm
  rw [nam_pts]
theorem ok_p : okName 0 ⟨#[112]⟩ = true := by decide +kernel
theorem ok_begin : okName 0 ⟨#[98, 101, 103, 105, 110]⟩ = false := by decide +kernel
theorem ren_p : renName [(⟨#[112]⟩, ⟨#[113]⟩)] ⟨#[112]⟩ = ⟨#[113]⟩ := by decide +kernel
theorem gat_p : gatherL [] (parts ⟨#[112]⟩) = [⟨#[112]⟩] := by decide +kernel
theorem gat_q : gatherL [] (parts ⟨#[113]⟩) = [⟨#[113]⟩] := by decide +kernel
theorem names_p (w : World) : Calls Tryz.prog 19 #[.agg #[.string ⟨#[112]⟩, .slice none 0 0, .slice none 0 0, .slice none 0 0, .slice none 0 0, .slice none 0 0, .slice none 0 0, .slice none 0 0, .slice none 0 0]] w (NamPost [⟨#[112]⟩] w) := by
  have := namesEmp ⟨#[112]⟩ w (by decide) (by decide +kernel)
  rw [nam_nm, gat_p] at this
  exact this
theorem names_q (w : World) : Calls Tryz.prog 19 #[.agg #[.string ⟨#[113]⟩, .slice none 0 0, .slice none 0 0, .slice none 0 0, .slice none 0 0, .slice none 0 0, .slice none 0 0, .slice none 0 0, .slice none 0 0]] w (NamPost [⟨#[113]⟩] w) := by
  have := namesEmp ⟨#[113]⟩ w (by decide) (by decide +kernel)
  rw [nam_nm, gat_q] at this
  exact this
theorem pairs_one (w : World) : PairsAt (w.alloc (.cells #[.string ⟨#[112]⟩, .string ⟨#[113]⟩] 47)) (some ⟨w.heap.size, 0, none⟩) 1 1 [(⟨#[112]⟩, ⟨#[113]⟩)] := by
  refine ⟨rfl, Nat.le_refl _, by decide, fun p hp => ?_, .inr ⟨w.heap.size, 0, rfl, by simp, fun j p hp => ?_⟩⟩
  · obtain rfl := List.mem_singleton.1 hp
    exact ⟨by decide, by decide⟩
  · have hj : j = 0 := by
      have := (List.getElem?_eq_some_iff.1 hp).1
      simp at this
      exact this
    subst hj
    obtain rfl : (⟨#[112]⟩, ⟨#[113]⟩) = p := by simpa using hp
    rw [box_cells (heap_new w _), box_cells (heap_new w _)]
    exact ⟨rfl, rfl⟩
theorem rename_p (w : World) (n : Nat) (hn : w.heap.size = n) : Calls Tryz.prog 22 #[.agg #[.string ⟨#[112]⟩, .slice none 0 0, .slice none 0 0, .slice none 0 0, .slice none 0 0, .slice none 0 0, .slice none 0 0, .slice none 0 0, .slice none 0 0], .slice (some ⟨n, 0, none⟩) 1 1] (w.alloc (.cells #[.string ⟨#[112]⟩, .string ⟨#[113]⟩] 47)) fun e w' => e = .returned (.agg #[.string ⟨#[113]⟩, .slice none 0 0, .slice none 0 0, .slice none 0 0, .slice none 0 0, .slice none 0 0, .slice none 0 0, .slice none 0 0, .slice none 0 0]) ∧ Below w.heap.size w w' := by
  subst hn
  refine (renameEmp ⟨#[112]⟩ _ 1 1 _ _ (by decide) (pairs_one w)).mono fun e w' ⟨h1, h2⟩ => ?_
  rw [ren_p] at h1
  exact ⟨h1, ((Below.refl _ w).alloc (Nat.le_refl _) _).trans (h2.mono (by simp))⟩
theorem texts_one (base : Nat) (w : World) (v : Value) (x : ByteArray) (h : OwnS base w v [x]) (hx : x.size ≤ maxLen) (n : Nat) (hn : w.heap[n]? = some (.cells #[.string x] 9)) : Calls Tryz.prog 18 #[v, .slice (some ⟨n, 0, none⟩) 1 1] w fun e w' => e = .returned (.bool true) ∧ Below w.heap.size w w' := by
  obtain ⟨a, cap, rfl, hS⟩ := h.strs (fun y hy => by rw [List.mem_singleton.1 hy]; exact hx)
  have hL : IsStrs w (some ⟨n, 0, none⟩) 1 1 [x] := isStrs_row (ss := [x]) hn (show 1 ≤ maxLen by decide) (fun y hy => by rw [List.mem_singleton.1 hy]; exact hx)
  refine (sameTexts_any a _ 1 cap 1 1 [x] [x] w hS hL).mono fun e w' ⟨h1, q, h2⟩ => ?_
  rw [sameL_refl] at h1
  subst h2
  exact ⟨h1, below_drewN (Below.refl _ _) q⟩

set_option maxRecDepth 100000 in
set_option maxHeartbeats 4000000 in
theorem awake_any (w : World) : Calls Tryz.prog 11 #[] w fun e w' => e = .returned (.bool true) ∧ Below w.heap.size w w' := by
  go_enter Tryz.func11, Tryz.ntmps11
  go_wp2_with fail
  with_reducible refine (rename_p (w.alloc (.cells #[.string ⟨#[112]⟩, .slice none 0 0, .slice none 0 0, .slice none 0 0, .slice none 0 0, .slice none 0 0, .slice none 0 0, .slice none 0 0, .slice none 0 0] 35)) (w.heap.size + 1) (World.size_alloc _ _)).mono ?_
  rintro e w1 ⟨rfl, b1⟩
  have b0 := (Below.refl w.heap.size w).alloc (Nat.le_refl _) (.cells #[.string ⟨#[112]⟩, .slice none 0 0, .slice none 0 0, .slice none 0 0, .slice none 0 0, .slice none 0 0, .slice none 0 0, .slice none 0 0, .slice none 0 0] 35)
  have R1 := Lib.hid (b0.trans (b1.mono b0.size))
  have K1 := Lib.hid ((b1.block w.heap.size (by simp)).trans (heap_new w (.cells #[.string ⟨#[112]⟩, .slice none 0 0, .slice none 0 0, .slice none 0 0, .slice none 0 0, .slice none 0 0, .slice none 0 0, .slice none 0 0, .slice none 0 0] 35)))
  have c1 := box_cells K1.out
  clear b0 b1
  have a2 := (Below.refl w1.heap.size w1).alloc (Nat.le_refl _) (.cells #[.string ⟨#[113]⟩, .slice none 0 0, .slice none 0 0, .slice none 0 0, .slice none 0 0, .slice none 0 0, .slice none 0 0, .slice none 0 0, .slice none 0 0] 35)
  have R2 := Lib.hid (R1.out.trans (a2.mono R1.out.size))
  have KP2 := Lib.hid ((a2.block _ (heap_lt K1.out)).trans K1.out)
  have KQ2 := Lib.hid (heap_new w1 (.cells #[.string ⟨#[113]⟩, .slice none 0 0, .slice none 0 0, .slice none 0 0, .slice none 0 0, .slice none 0 0, .slice none 0 0, .slice none 0 0, .slice none 0 0] 35))
  have cp2 := box_cells KP2.out
  clear a2 c1
  go_wp2_with fail
  with_reducible refine (checkEmp_yes ⟨#[112]⟩ _ (by decide) ok_p).mono ?_
  rintro e w3 ⟨rfl, b3⟩
  have R3 := Lib.hid (R2.out.trans (b3.mono R2.out.size))
  have KP3 := Lib.hid ((b3.block _ (heap_lt KP2.out)).trans KP2.out)
  have KQ3 := Lib.hid ((b3.block _ (heap_lt KQ2.out)).trans KQ2.out)
  have cp3 := box_cells KP3.out
  clear b3 cp2
  go_wp2_with fail
  with_reducible refine (names_p _).mono ?_
  rintro e w4 ⟨v, rfl, o4, b4⟩
  have R4 := Lib.hid (R3.out.trans (b4.mono R3.out.size))
  have KQ4 := Lib.hid ((b4.block _ (heap_lt KQ3.out)).trans KQ3.out)
  have O4 := Lib.hid o4
  clear b4 cp3 o4
  go_wp2_with fail
  have a5 := (Below.refl w4.heap.size w4).alloc (Nat.le_refl _) (.cells #[.string ⟨#[112]⟩] 9)
  with_reducible refine (texts_one _ _ v ⟨#[112]⟩ (O4.out.below a5) (by decide) _ (heap_new w4 _)).mono ?_
  rintro e w5 ⟨rfl, b5⟩
  have b5' := a5.trans (b5.mono a5.size)
  have R5 := Lib.hid (R4.out.trans (b5'.mono R4.out.size))
  have KQ5 := Lib.hid ((b5'.block _ (heap_lt KQ4.out)).trans KQ4.out)
  have cq5 := box_cells KQ5.out
  clear b5 b5' a5
  go_wp2_with fail
  with_reducible refine (names_q _).mono ?_
  rintro e w6 ⟨v6, rfl, o6, b6⟩
  have R6 := Lib.hid (R5.out.trans (b6.mono R5.out.size))
  have O6 := Lib.hid o6
  clear b6 o6 cq5
  go_wp2_with fail
  have a7 := (Below.refl w6.heap.size w6).alloc (Nat.le_refl _) (.cells #[.string ⟨#[113]⟩] 9)
  with_reducible refine (texts_one _ _ v6 ⟨#[113]⟩ (O6.out.below a7) (by decide) _ (heap_new w6 _)).mono ?_
  rintro e w7 ⟨rfl, b7⟩
  have b7' := a7.trans (b7.mono a7.size)
  have R7 := Lib.hid (R6.out.trans (b7'.mono R6.out.size))
  clear b7 b7' a7
  go_wp2_with fail
  with_reducible refine (checkEmp_no ⟨#[98, 101, 103, 105, 110]⟩ _ (by decide) ok_begin).mono ?_
  rintro e w8 ⟨rfl, b8⟩
  have R8 := Lib.hid (R7.out.trans (b8.mono R7.out.size))
  clear b8
  go_wp2_with fail
  go_ret
  exact ⟨rfl, R8.out⟩
end Go.Proofs.YtciijpahjjoppaaGreat
end
section
namespace Go.Proofs.YtciijpahjjoppaaGreat
open Go.RowKit Go.Deep Go.Shelf Go.Maps

theorem add_tild1 (k : Nat) (h : k < 200) : ∀ w : World, (Op.stringOp .add ⟨#[126]⟩ ⟨(Lib.decDigits k).toArray⟩).run Tryz.prog w = .ok (.string (ba (126 :: Lib.decDigits k))) w := fun w => by
  have := dec_len h
  rw [run_string_add_sum w _ _ (by show 1 + (Lib.decDigits k).toArray.size ≤ _; rw [List.size_toArray]; omega)]
  exact congrArg (fun b => Result.ok (Value.string b) w) (ByteArray.mk_append_mk [126] _)
theorem add_tild2 (k : Nat) (h : k < 200) : ∀ w : World, (Op.stringOp .add (ba (126 :: Lib.decDigits k)) ⟨#[126]⟩).run Tryz.prog w = .ok (.string (tild k)) w := fun w => by
  have := dec_len h
  rw [run_string_add_sum w _ _ (by show (126 :: Lib.decDigits k).toArray.size + 1 ≤ _; rw [List.size_toArray, List.length_cons]; omega)]
  exact congrArg (fun b => Result.ok (Value.string b) w) (ByteArray.mk_append_mk (126 :: Lib.decDigits k) [126])
theorem heap_lt_of_cell {w : World} {b o : Nat} {v : Value} (h : w.cell? ⟨b, o, none⟩ = some v) : b < w.heap.size := World.block_lt_of_cell? w ⟨b, o, none⟩ h
theorem ownS_slice {base : Nat} {w : World} {v : Value} {ss : List ByteArray} {n : Nat} {C : Prop} (h : OwnS base w v ss) (hn : ss.length = n) (k : ∀ a p, v = .slice a n p → C) : C := by
  rcases h.2 with ⟨rfl, h4⟩ | ⟨g, cap, cur, rfl, _⟩
  · exact k none 0 (by rw [← hn, h4])
  · exact k _ cap (by rw [hn])
set_option maxRecDepth 100000 in
set_option maxHeartbeats 4000000 in
theorem treeBack_walk (w : World) (x : List D) (hx : ShG x) (hb : mRow x ≤ 1048576) (vs : List Value) (hv : AllAt w vs x) :
    Calls Tryz.prog 7 #[.agg ⟨vs⟩] w fun e w' => e = .returned (.bool true) ∧ Below w.heap.size w w' := by
  obtain ⟨ns, hns⟩ : ∃ ns, ns = foldN (nG (mRow x + 1) x) := ⟨_, rfl⟩
  obtain ⟨q, hqd⟩ : ∃ q, q = mG (renName (thereN ns ns.length)) (mRow x + 1) x := ⟨_, rfl⟩
  have HAL := fun (h : ns.length ≤ 200) => there_all (K := mRow x + 1) (K2 := 5 * mRow x + 1) hx (Nat.lt_succ_self _) (by rw [← hns]; exact h) (Nat.lt_succ_self _)
  rw [← hns, ← hqd] at HAL
  have NA := Lib.hid (fun (V : World) (hV : Below w.heap.size w V) => (show Calls Tryz.prog 19 #[.agg ⟨vs⟩] V (NamPost ns V) from by
    have h := names_any (mRow x + 1) V x vs hx (Nat.lt_succ_self _) (by omega) (hv.stays hV)
    rwa [namClo_fold, show (nG (mRow x + 1) x).foldl addN [] = ns from hns.symm] at h))
  have RN := Lib.hid (fun (_ : ns.length ≤ 200) (V : World) (hV : Below w.heap.size w V) (a : Option Addr) (cap : Nat) (hP : PairsAt V a ns.length cap (thereN ns ns.length)) => (show Calls Tryz.prog 22 #[.agg ⟨vs⟩, .slice a ns.length cap] V (fun e w' => ∃ vs', e = .returned (.agg ⟨vs'⟩) ∧ AllAt w' vs' q ∧ Below V.heap.size V w') from by
    have h := rename_any (mRow x + 1) V x vs hx (Nat.lt_succ_self _) (by omega) (hv.stays hV) a ns.length cap _ hP
    rwa [← hqd] at h))
  have HSH := Lib.hid (fun h => (HAL h).1)
  have HLN := Lib.hid (nG_ok (mRow x + 1) hx).1
  have NQ := Lib.hid (fun (h2 : ns.length ≤ 200) (V : World) (us : List Value) (hV : AllAt V us q) => (show Calls Tryz.prog 19 #[.agg ⟨us⟩] V (fun e w' => ∃ a p, e = .returned (.slice a ns.length p) ∧ Below V.heap.size V w') from by
    have h := names_great (5 * mRow x + 1) V q us (HAL h2).1 (by have := (HAL h2).2.1; omega) (by have := (HAL h2).2.1; omega) (by rw [(HAL h2).2.2.1, List.length_map]; have := HLN.out; omega) hV
    rw [namClo_fold] at h
    have hc : ((nG (5 * mRow x + 1) q).foldl addN []).length = ns.length := by
      rw [(HAL h2).2.2.1, hns]
      exact there_count
    refine h.mono ?_
    rintro e w' ⟨v, rfl, ov, bv⟩
    refine ownS_slice ov hc fun a p e => ⟨a, p, by rw [e], bv⟩))
  have RB := Lib.hid (fun (h2 : ns.length ≤ 200) (V : World) (us : List Value) (hV : AllAt V us q) (a : Option Addr) (cap : Nat) (hP : PairsAt V a ns.length cap (backN ns ns.length)) => (show Calls Tryz.prog 22 #[.agg ⟨us⟩, .slice a ns.length cap] V (fun e w' => ∃ vs', e = .returned (.agg ⟨vs'⟩) ∧ AllAt w' vs' x ∧ Below V.heap.size V w') from by
    have h := rename_any (5 * mRow x + 1) V q us (HAL h2).1 (by have := (HAL h2).2.1; omega) (by have := (HAL h2).2.1; omega) hV a ns.length cap _ hP
    rwa [(HAL h2).2.2.2] at h))
  have SM := Lib.hid (fun (V : World) (hV : Below w.heap.size w V) (us : List Value) (hu : AllAt V us x) => (show Calls Tryz.prog 15 #[.agg ⟨us⟩, .agg ⟨vs⟩] V (fun e w' => e = .returned (.bool true) ∧ Below V.heap.size V w') from by
    have h := refSame_any V x x hx hx us vs hu (hv.stays hV) V (Below.refl _ _)
    refine h.mono ?_
    rintro e w' ⟨rfl, b⟩
    exact ⟨by rw [same_refl], b⟩))
  have HSZ := Lib.hid (show ∀ p ∈ ns, p.size ≤ maxLen from fun p hp => by
    rw [hns] at hp
    rcases (foldN_ok (nG (mRow x + 1) x) []).2 p hp with h | h
    · simp at h
    · have := (nG_ok (mRow x + 1) hx).2 p h
      unfold maxLen
      omega)
  have HLM := Lib.hid (show ∀ p ∈ ns, p.size ≤ lim from fun p hp => by
    rw [hns] at hp
    rcases (foldN_ok (nG (mRow x + 1) x) []).2 p hp with h | h
    · simp at h
    · have := (nG_ok (mRow x + 1) hx).2 p h
      unfold lim
      omega)
  obtain ⟨nm, be, mi, af, rc, vr, rt, bd, en, bea, bec, mia, mic, afa, afc, rca, rcc, vra, vrc, rta, rtc, bda, bdc, ena, enc, hxe, rfl, _⟩ := hv.openG hx
  clear hv hx hxe hb HAL hns hqd HLN
  have HW := Lib.hid ((Below.refl w.heap.size w).alloc (Nat.le_refl _) (.cells #[.string nm, .slice bea be.length bec, .slice mia mi.length mic, .slice afa af.length afc, .slice rca rc.length rcc, .slice vra vr.length vrc, .slice rta rt.length rtc, .slice bda bd.length bdc, .slice ena en.length enc] 35))
  have BXC := Lib.hid (fun (V : World) (hb : Below (w.heap.size + 1) (w.alloc (.cells #[.string nm, .slice bea be.length bec, .slice mia mi.length mic, .slice afa af.length afc, .slice rca rc.length rcc, .slice vra vr.length vrc, .slice rta rt.length rtc, .slice bda bd.length bdc, .slice ena en.length enc] 35)) V) => box_cells ((hb.block w.heap.size (by omega)).trans (heap_new w (.cells #[.string nm, .slice bea be.length bec, .slice mia mi.length mic, .slice afa af.length afc, .slice rca rc.length rcc, .slice vra vr.length vrc, .slice rta rt.length rtc, .slice bda bd.length bdc, .slice ena en.length enc] 35))))
  have cA := BXC.out _ (Below.refl _ _)
  go_enter Tryz.func7, Tryz.ntmps7
  go_wp2_with fail
  refine (NA.out _ HW.out).mono ?_
  rintro e w2 ⟨v2, rfl, o2, b2⟩
  have S2 := Lib.hid (show Below (w.heap.size + 1) (w.alloc (.cells #[.string nm, .slice bea be.length bec, .slice mia mi.length mic, .slice afa af.length afc, .slice rca rc.length rcc, .slice vra vr.length vrc, .slice rta rt.length rtc, .slice bda bd.length bdc, .slice ena en.length enc] 35)) w2 from b2.mono (by simp))
  obtain ⟨a2, p2, rfl, s2⟩ := o2.strs HSZ.out
  have HS := Lib.hid s2
  have hcap := s2.len_le
  clear o2 b2 s2 cA
  have cA := BXC.out w2 S2.out
  by_cases h200 : 200 < ns.length
  · go_wp2_with fail
    refine (awake_any _).mono ?_
    rintro e w3 ⟨rfl, b3⟩
    go_wp2_with fail
    go_ret
    exact ⟨rfl, HW.out.trans ((S2.out.mono (by omega)).trans (b3.mono (by have := S2.out.size; simp at this; omega)))⟩
  have h20 : ns.length ≤ 200 := by omega
  have HEND := Lib.hid (fun (V : World) (hV : Below w2.heap.size w2 V) => HW.out.trans ((S2.out.trans (hV.mono (by have := S2.out.size; simpa using this))).mono (by omega)))
  go_wp2_with fail
  go_loopw [4, 5, 6] (fun u1 u2 i wr => ∃ (k : Nat) (v1 v2 : Value), k ≤ ns.length ∧ v1 = u1 ∧ v2 = u2 ∧ i = .int .i64 k ∧ Hid (BkJ w2 ns k v1 v2 wr)) (fun _ _ i _ => ns.length - (intOf i).toNat)
  case atStart => exact ⟨0, _, _, Nat.zero_le _, rfl, rfl, rfl, Lib.hid (BkJ.start _ _)⟩
  case round =>
    obtain ⟨k, v1, v2, hk, rfl, rfl, rfl, J⟩ := hrel
    by_cases hlt : k < ns.length
    · obtain ⟨b, o, x, rfl, hx, hxs, hc0⟩ := HS.out.at hlt
      have HX := Lib.hid hx
      have HC := Lib.hid hc0
      have HBL := Lib.hid (heap_lt_of_cell hc0)
      clear hx hc0 cA
      obtain ⟨d, hd⟩ : ∃ d : ByteArray, d = ⟨(Lib.decDigits k).toArray⟩ := ⟨_, rfl⟩
      obtain ⟨n, hn⟩ : ∃ n : ByteArray, n = tild k := ⟨_, rfl⟩
      obtain ⟨e1, he1⟩ : ∃ e1 : ByteArray, e1 = ba (126 :: Lib.decDigits k) := ⟨_, rfl⟩
      have hadd1 : ∀ w : World, (Op.stringOp .add ⟨#[126]⟩ d).run Tryz.prog w = .ok (.string e1) w := by subst hd he1; exact add_tild1 k (by omega)
      have hadd2 : ∀ w : World, (Op.stringOp .add e1 ⟨#[126]⟩).run Tryz.prog w = .ok (.string n) w := by subst hn he1; exact add_tild2 k (by omega)
      have DG := Lib.hid (fun (W : World) => (show Calls Tryz.prog 21 #[.int .i64 (k : Nat)] W fun e w' => e = .returned (.string d) ∧ ∃ q, w' = W.drewN q from by
          have h := refDigits_pos (k : Nat) W (by omega) (by omega)
          rwa [Lib.itoa_nonneg, ← hd] at h))
      have HND := Lib.hid hn
      clear hd he1 hn
      go_wp2_with fail
      refine (DG.out _).mono ?_
      rintro e w4 ⟨rfl, q4, rfl⟩
      have J4 := Lib.hid (J.out.step (below_drewN (Below.refl _ _) q4))
      have SX := Lib.hid (HS.out.below J4.out.bel)
      have hcx : (wr.drewN q4).cell? ⟨b, o + k, none⟩ = some (.string x) := (J4.out.bel.cell (p := ⟨b, o + k, none⟩) HBL.out).trans HC.out
      clear J
      generalize wr.drewN q4 = wx at *
      go_wp2_with fail
      go_loop [8] (fun i => ∃ j : Nat, j ≤ ns.length ∧ i = .int .i64 j ∧ isIn n (ns.take j) = false) (fun i => ns.length - (intOf i).toNat)
      case atStart => exact ⟨0, Nat.zero_le _, rfl, rfl⟩
      case round =>
        obtain ⟨j, hj, rfl, hno⟩ := hrel
        have HN := Lib.hid hno
        clear hno
        by_cases hjl : j < ns.length
        · obtain ⟨b2, o2, z, hab, hz, hzs, hcz⟩ := SX.out.at hjl
          obtain ⟨rfl, rfl⟩ : b = b2 ∧ o = o2 := by cases hab; exact ⟨rfl, rfl⟩
          have HZ := Lib.hid hz
          clear hz hab hcx
          cases hb : z.toList == n.toList with
          | true =>
            go_wp2_with fail
            refine (awake_any _).mono ?_
            rintro e w5 ⟨rfl, b5⟩
            go_wp2_with fail
            go_ret
            exact ⟨rfl, HEND.out _ (J4.out.bel.trans (b5.mono J4.out.bel.size))⟩
          | false =>
            have HT := Lib.hid (isIn_take_succ HZ.out HN.out hb)
            go_wp2_with fail
            go_round
            case rel => exact ⟨j + 1, by omega, by go_num, HT.out⟩
            case measure => simp [intOf]; omega
        · obtain rfl : j = ns.length := by omega
          have HNI := Lib.hid (show tild k ∉ ns by rw [← HND.out]; exact not_in HN.out)
          have O1 := Lib.hid J4.out.own1
          have hl1 : (thereN ns k).length ≤ 100000 := by rw [thereN_len]; omega
          have hl2 : (backN ns k).length ≤ 100000 := by rw [backN_len]; omega
          have hs1 := J4.out.bel.size
          have tok1 : True := trivial
          go_wp2_with (first | (have _t := tok1; at_builtin; refine wp_appP rfl (.tmp 39) (.tmp 46) rfl ((x, n) : ByteArray × ByteArray) #[.string x, .string n] rfl O1.out hs1 rfl rfl hl1 ?_; intro v1' w6 o6 g6; have M6 := Lib.hid (J4.out.app HX.out HNI.out (by rw [← HND.out]; exact o6) g6); clear tok1 o6 g6 hs1 hcx hl1; have hs1 := M6.out.bel.size; have hcx : w6.cell? ⟨b, o + k, none⟩ = some (.string x) := (M6.out.bel.cell (p := ⟨b, o + k, none⟩) HBL.out).trans HC.out; have O2 := Lib.hid M6.out.own2; have tok2 : True := trivial) | (have _t := tok2; at_builtin; refine wp_appP rfl (.tmp 48) (.tmp 55) rfl ((n, x) : ByteArray × ByteArray) #[.string n, .string x] rfl O2.out hs1 rfl rfl hl2 ?_; intro v2' w7 o7 g7; have J7 := Lib.hid (M6.out.app HX.out (by rw [← HND.out]; exact o7) g7); clear tok2 o7 g7 hs1 hcx hl2))
          go_roundw
          case rel => exact ⟨k + 1, _, _, by omega, rfl, rfl, by go_num, J7⟩
          case measure => simp [intOf]; omega
    · obtain rfl : k = ns.length := by omega
      have JE := Lib.hid J.out.bel
      obtain ⟨c1, cp1, rfl, P1⟩ : ∃ a cap, v1 = .slice a ns.length cap ∧ PairsAt wr a ns.length cap (thereN ns ns.length) := by have := J.out.own1.pairs (there_lim h20 HLM.out); rwa [thereN_len] at this
      obtain ⟨c2, cp2, rfl, P2⟩ : ∃ a cap, v2 = .slice a ns.length cap ∧ PairsAt wr a ns.length cap (backN ns ns.length) := by have := J.out.own2.pairs (back_lim h20 HLM.out); rwa [backN_len] at this
      have HP1 := Lib.hid P1
      have HP2 := Lib.hid P2
      clear P1 P2 J
      have SE := Lib.hid (S2.out.trans (JE.out.mono (by have := S2.out.size; simpa using this)))
      clear cA
      have cA := BXC.out wr SE.out
      go_wp2_with fail
      refine (RN.out h20 _ (HW.out.trans (SE.out.mono (by omega))) _ _ HP1.out).mono ?_
      rintro e w8 ⟨vq, rfl, aq, b8⟩
      have S8 := Lib.hid (SE.out.trans (b8.mono (by have := SE.out.size; simpa using this)))
      obtain ⟨nmq, beq, miq, afq, rcq, vrq, rtq, bdq, enq, beqa, beqc, miqa, miqc, afqa, afqc, rcqa, rcqc, vrqa, vrqc, rtqa, rtqc, bdqa, bdqc, enqa, enqc, hqe, rfl, _⟩ := aq.openG (HSH.out h20)
      have LN := Lib.hid (show ([.string nmq, .slice beqa beq.length beqc, .slice miqa miq.length miqc, .slice afqa afq.length afqc, .slice rcqa rcq.length rcqc, .slice vrqa vrq.length vrqc, .slice rtqa rtq.length rtqc, .slice bdqa bdq.length bdqc, .slice enqa enq.length enqc] : List Value).length = 9 from rfl)
      have ON := Lib.hid aq.one
      have HQ := Lib.hid aq
      have HP3 := Lib.hid (HP2.out.kept b8.size fun c hc => b8.block c hc)
      clear aq hqe b8 cA
      have cA := BXC.out w8 S8.out
      go_wp2_with (first | ((with_reducible refine wp_storeNew (o := ⟨none, .store 35 (.tmp 9) (.tmp 59), _, _, _, _⟩) rfl (.tmp 9) (.tmp 59) 35 rfl 9 Tryz.sizeOf35 _ ?_ ?_ [.string nmq, .slice beqa beq.length beqc, .slice miqa miq.length miqc, .slice afqa afq.length afqc, .slice rcqa rcq.length rcqc, .slice vrqa vrq.length vrqc, .slice rtqa rtq.length rtqc, .slice bdqa bdq.length bdqc, .slice enqa enq.length enqc] ?_ LN.out ON.out ?_); rfl; rfl; rfl))
      obtain ⟨wq, hwq⟩ : ∃ wq, wq = w8.alloc (.cells ⟨[.string nmq, .slice beqa beq.length beqc, .slice miqa miq.length miqc, .slice afqa afq.length afqc, .slice rcqa rcq.length rcqc, .slice vrqa vrq.length vrqc, .slice rtqa rtq.length rtqc, .slice bdqa bdq.length bdqc, .slice enqa enq.length enqc]⟩ 35) := ⟨_, rfl⟩
      have bq : Below w8.heap.size w8 wq := by rw [hwq]; exact (Below.refl _ _).alloc (Nat.le_refl _) _
      have hq : wq.heap[w8.heap.size]? = some (.cells ⟨[.string nmq, .slice beqa beq.length beqc, .slice miqa miq.length miqc, .slice afqa afq.length afqc, .slice rcqa rcq.length rcqc, .slice vrqa vrq.length vrqc, .slice rtqa rtq.length rtqc, .slice bdqa bdq.length bdqc, .slice enqa enq.length enqc]⟩ 35) := by rw [hwq]; exact heap_new _ _
      rw [← hwq]
      clear hwq
      have SQ := Lib.hid (show Below (w.heap.size + 1) (w.alloc (.cells #[.string nm, .slice bea be.length bec, .slice mia mi.length mic, .slice afa af.length afc, .slice rca rc.length rcc, .slice vra vr.length vrc, .slice rta rt.length rtc, .slice bda bd.length bdc, .slice ena en.length enc] 35)) wq from S8.out.trans (bq.mono (by have := S8.out.size; simpa using this)))
      have BXQ := Lib.hid (fun (V : World) (hb : Below wq.heap.size wq V) => box_cells ((hb.block w8.heap.size (heap_lt hq)).trans hq))
      have BXP := Lib.hid (fun (V : World) (hb : Below wq.heap.size wq V) => BXC.out V (SQ.out.trans (hb.mono (by have := SQ.out.size; simpa using this))))
      have HQ1 := Lib.hid (fun (V : World) (hb : Below wq.heap.size wq V) => (HQ.out.stays bq).stays hb)
      have HPV := Lib.hid (fun (V : World) (hb : Below wq.heap.size wq V) => HW.out.trans ((SQ.out.trans (hb.mono (by have := SQ.out.size; simpa using this))).mono (by omega)))
      have HP4 := Lib.hid (fun (V : World) (hb : Below wq.heap.size wq V) => (HP3.out.kept bq.size fun c hc => bq.block c hc).kept hb.size fun c hc => hb.block c hc)
      clear bq hq cA
      refine wp_region_held (S := fun w' => Below wq.heap.size wq w') (by kernel_rfl) ?_
      have hHeld := below_drew0 (Below.refl wq.heap.size wq)
      change (fun w' => Below wq.heap.size wq w') _ at hHeld
      refine wpAnyH_take (i := 0) (oi := ⟨some 60, .load 35 (.tmp 9), 35, "law.go:68", #[], none⟩) (v := ?v0) rfl (by kernel_rfl) (by kernel_rfl) (by kernel_rfl) (fun _ _ _ h => h) (Or.inl ⟨by rfl, ?hy0⟩) hHeld ?rest0
      case hy0 => (intro V hSW; have cA := BXP.out V hSW; have cQ := BXQ.out V hSW; go_simp; try with_reducible rfl)
      try simp only [Act.put, List.setIfInBounds_toArray, List.set_cons_zero, List.set_cons_succ]
      refine wpAnyH_take (i := 3) (oi := ⟨some 63, .move (.tmp 3), 29, "law.go:68", #[], none⟩) (v := ?v3) rfl (by kernel_rfl) (by kernel_rfl) (by kernel_rfl) (fun _ _ _ h => h) (Or.inl ⟨by rfl, ?hy3⟩) hHeld ?rest3
      case hy3 => (intro V hSW; have cA := BXP.out V hSW; have cQ := BXQ.out V hSW; go_simp; try with_reducible rfl)
      try simp only [Act.put, List.setIfInBounds_toArray, List.set_cons_zero, List.set_cons_succ]
      refine wpAnyH_take (i := 4) (oi := ⟨some 64, .call { callee := .builtin .len, args := #[.tmp 63], argTypes := #[29] }, 3, "law.go:68", #[⟨3, .data⟩], none⟩) (v := ?v4) rfl (by kernel_rfl) (by kernel_rfl) (by kernel_rfl) (fun _ _ _ h => h) (Or.inl ⟨by rfl, ?hy4⟩) hHeld ?rest4
      case hy4 => (intro V hSW; have cA := BXP.out V hSW; have cQ := BXQ.out V hSW; go_simp; try with_reducible rfl)
      try simp only [Act.put, List.setIfInBounds_toArray, List.set_cons_zero, List.set_cons_succ]
      refine wpAnyH_ready (rs := [1]) (by kernel_rfl) (by simp) ?_
      refine AllReadyH.cons (o := ⟨some 61, .call { callee := .value (.func 19), args := #[.tmp 60], argTypes := #[35] }, 29, "law.go:68", #[⟨0, .data⟩], none⟩) rfl (fun K hK => ?_) AllReadyH.nil
      go_simp
      go_at_call 19
      refine (NQ.out h20 _ _ (HQ1.out _ hHeld)).mono ?_
      rintro e w9 ⟨a9, p9, rfl, b9⟩
      have hB : Below wq.heap.size wq w9 := hHeld.trans (b9.mono hHeld.size)
      clear hHeld b9
      have hHeld := hB
      clear hB
      refine hK.out _ _ hHeld (fun _ => ?_)
      clear hK K
      try simp only [Act.put, List.setIfInBounds_toArray, List.set_cons_zero, List.set_cons_succ]
      refine wpAnyH_take (i := 2) (oi := ⟨some 62, .call { callee := .builtin .len, args := #[.tmp 61], argTypes := #[29] }, 3, "law.go:68", #[⟨1, .data⟩], none⟩) (v := ?v2) rfl (by kernel_rfl) (by kernel_rfl) (by kernel_rfl) (fun _ _ _ h => h) (Or.inl ⟨by rfl, ?hy2⟩) hHeld ?rest2
      case hy2 => (intro V hSW; have cA := BXP.out V hSW; have cQ := BXQ.out V hSW; go_simp; try with_reducible rfl)
      try simp only [Act.put, List.setIfInBounds_toArray, List.set_cons_zero, List.set_cons_succ]
      refine wpAnyH_take (i := 5) (oi := ⟨some 65, .binOp .eql 3 (.tmp 62) (.tmp 64) 3, 4, "law.go:68", #[⟨2, .data⟩, ⟨4, .data⟩], none⟩) (v := ?v5) rfl (by kernel_rfl) (by kernel_rfl) (by kernel_rfl) (fun _ _ _ h => h) (Or.inl ⟨by rfl, ?hy5⟩) hHeld ?rest5
      case hy5 => (intro V hSW; have cA := BXP.out V hSW; have cQ := BXQ.out V hSW; go_simp; try with_reducible rfl)
      try simp only [Act.put, List.setIfInBounds_toArray, List.set_cons_zero, List.set_cons_succ]
      refine wpAnyH_take (i := 6) (oi := ⟨some 66, .move (.tmp 65), 4, "law.go:68", #[⟨5, .data⟩, ⟨1, .chain⟩], none⟩) (v := ?v6) rfl (by kernel_rfl) (by kernel_rfl) (by kernel_rfl) (fun _ _ _ h => h) (Or.inl ⟨by rfl, ?hy6⟩) hHeld ?rest6
      case hy6 => (intro V hSW; have cA := BXP.out V hSW; have cQ := BXQ.out V hSW; go_simp; try with_reducible rfl)
      try simp only [Act.put, List.setIfInBounds_toArray, List.set_cons_zero, List.set_cons_succ]
      refine wpAnyH_take (i := 7) (oi := ⟨some 67, .load 35 (.tmp 9), 35, "law.go:68", #[⟨6, .guard⟩], some (6, true)⟩) (v := ?v7) rfl (by kernel_rfl) (by kernel_rfl) (by kernel_rfl) (fun _ _ _ h => h) (Or.inl ⟨by rfl, ?hy7⟩) hHeld ?rest7
      case hy7 => (intro V hSW; have cA := BXP.out V hSW; have cQ := BXQ.out V hSW; go_simp; try with_reducible rfl)
      try simp only [Act.put, List.setIfInBounds_toArray, List.set_cons_zero, List.set_cons_succ]
      refine wpAnyH_take (i := 8) (oi := ⟨some 68, .move (.tmp 5), 44, "law.go:68", #[⟨6, .guard⟩], some (6, true)⟩) (v := ?v8) rfl (by kernel_rfl) (by kernel_rfl) (by kernel_rfl) (fun _ _ _ h => h) (Or.inl ⟨by rfl, ?hy8⟩) hHeld ?rest8
      case hy8 => (intro V hSW; have cA := BXP.out V hSW; have cQ := BXQ.out V hSW; go_simp; try with_reducible rfl)
      try simp only [Act.put, List.setIfInBounds_toArray, List.set_cons_zero, List.set_cons_succ]
      refine wpAnyH_take (i := 10) (oi := ⟨some 70, .load 35 (.tmp 1), 35, "law.go:68", #[⟨6, .guard⟩], some (6, true)⟩) (v := ?v10) rfl (by kernel_rfl) (by kernel_rfl) (by kernel_rfl) (fun _ _ _ h => h) (Or.inl ⟨by rfl, ?hy10⟩) hHeld ?rest10
      case hy10 => (intro V hSW; have cA := BXP.out V hSW; have cQ := BXQ.out V hSW; go_simp; try with_reducible rfl)
      try simp only [Act.put, List.setIfInBounds_toArray, List.set_cons_zero, List.set_cons_succ]
      refine wpAnyH_ready (rs := [9]) (by kernel_rfl) (by simp) ?_
      refine AllReadyH.cons (o := ⟨some 69, .call { callee := .value (.func 22), args := #[.tmp 67, .tmp 68], argTypes := #[35, 44] }, 35, "law.go:68", #[⟨7, .data⟩, ⟨8, .data⟩, ⟨6, .chain⟩, ⟨6, .guard⟩], some (6, true)⟩) rfl (fun K hK => ?_) AllReadyH.nil
      go_simp
      go_at_call 22
      refine (RB.out h20 _ _ (HQ1.out _ hHeld) _ _ (HP4.out _ hHeld)).mono ?_
      rintro e w10 ⟨vr', rfl, ar, b10⟩
      have hB : Below wq.heap.size wq w10 := hHeld.trans (b10.mono hHeld.size)
      have HR := Lib.hid ar
      clear hHeld b10 ar
      have hHeld := hB
      clear hB
      refine hK.out _ _ hHeld (fun _ => ?_)
      clear hK K
      try simp only [Act.put, List.setIfInBounds_toArray, List.set_cons_zero, List.set_cons_succ]
      refine wpAnyH_ready (rs := [11]) (by kernel_rfl) (by simp) ?_
      refine AllReadyH.cons (o := ⟨some 71, .call { callee := .value (.func 15), args := #[.tmp 69, .tmp 70], argTypes := #[35, 35] }, 4, "law.go:68", #[⟨9, .data⟩, ⟨10, .data⟩, ⟨9, .chain⟩, ⟨6, .guard⟩], some (6, true)⟩) rfl (fun K hK => ?_) AllReadyH.nil
      go_simp
      go_at_call 15
      refine (SM.out _ (HPV.out _ hHeld) _ HR.out).mono ?_
      rintro e w11 ⟨rfl, b11⟩
      have hB : Below wq.heap.size wq w11 := hHeld.trans (b11.mono hHeld.size)
      clear hHeld b11
      have hHeld := hB
      clear hB
      refine hK.out _ _ hHeld (fun _ => ?_)
      clear hK K
      try simp only [Act.put, List.setIfInBounds_toArray, List.set_cons_zero, List.set_cons_succ]
      refine wpAnyH_take (i := 12) (oi := ⟨some 72, .pick (.tmp 66) (.tmp 71) (.const (.bool false)), 4, "law.go:68", #[⟨6, .data⟩, ⟨11, .data⟩], none⟩) (v := ?v12) rfl (by kernel_rfl) (by kernel_rfl) (by kernel_rfl) (fun _ _ _ h => h) (Or.inl ⟨by rfl, ?hy12⟩) hHeld ?rest12
      case hy12 => (intro V hSW; have cA := BXP.out V hSW; have cQ := BXQ.out V hSW; go_simp; try with_reducible rfl)
      try simp only [Act.put, List.setIfInBounds_toArray, List.set_cons_zero, List.set_cons_succ]
      refine wpAnyH_take (i := 13) (oi := ⟨some 73, .move (.tmp 72), 4, "law.go:68", #[⟨12, .data⟩, ⟨11, .chain⟩], none⟩) (v := ?v13) rfl (by kernel_rfl) (by kernel_rfl) (by kernel_rfl) (fun _ _ _ h => h) (Or.inl ⟨by rfl, ?hy13⟩) hHeld ?rest13
      case hy13 => (intro V hSW; have cA := BXP.out V hSW; have cQ := BXQ.out V hSW; go_simp; try with_reducible rfl)
      try simp only [Act.put, List.setIfInBounds_toArray, List.set_cons_zero, List.set_cons_succ]
      refine wpAnyH_ready (rs := [14]) (by kernel_rfl) (by simp) ?_
      refine AllReadyH.cons (o := ⟨some 74, .call { callee := .value (.func 11), args := #[], argTypes := #[] }, 4, "law.go:68", #[⟨13, .chain⟩, ⟨13, .guard⟩], some (13, true)⟩) rfl (fun K hK => ?_) AllReadyH.nil
      go_simp
      go_at_call 11
      refine (awake_any _).mono ?_
      rintro e w12 ⟨rfl, b12⟩
      have hB : Below wq.heap.size wq w12 := hHeld.trans (b12.mono hHeld.size)
      clear hHeld b12
      have hHeld := hB
      clear hB
      refine hK.out _ _ hHeld (fun _ => ?_)
      clear hK K
      try simp only [Act.put, List.setIfInBounds_toArray, List.set_cons_zero, List.set_cons_succ]
      refine wpAnyH_take (i := 15) (oi := ⟨some 75, .pick (.tmp 73) (.tmp 74) (.const (.bool false)), 4, "law.go:68", #[⟨13, .data⟩, ⟨14, .data⟩], none⟩) (v := ?v15) rfl (by kernel_rfl) (by kernel_rfl) (by kernel_rfl) (fun _ _ _ h => h) (Or.inl ⟨by rfl, ?hy15⟩) hHeld ?rest15
      case hy15 => (intro V hSW; have cA := BXP.out V hSW; have cQ := BXQ.out V hSW; go_simp; try with_reducible rfl)
      try simp only [Act.put, List.setIfInBounds_toArray, List.set_cons_zero, List.set_cons_succ]
      refine wpAnyH_take (i := 16) (oi := ⟨some 2, .assign (.tmp 75), 4, "law.go:68", #[⟨15, .data⟩, ⟨14, .chain⟩, ⟨0, .phase⟩, ⟨1, .phase⟩, ⟨2, .phase⟩, ⟨3, .phase⟩, ⟨4, .phase⟩, ⟨5, .phase⟩, ⟨6, .phase⟩, ⟨7, .phase⟩, ⟨8, .phase⟩, ⟨9, .phase⟩, ⟨10, .phase⟩, ⟨11, .phase⟩, ⟨12, .phase⟩, ⟨13, .phase⟩, ⟨14, .phase⟩, ⟨15, .phase⟩], none⟩) (v := ?v16) rfl (by kernel_rfl) (by kernel_rfl) (by kernel_rfl) (fun _ _ _ h => h) (Or.inl ⟨by rfl, ?hy16⟩) hHeld ?rest16
      case hy16 => (intro V hSW; have cA := BXP.out V hSW; have cQ := BXQ.out V hSW; go_simp; try with_reducible rfl)
      try simp only [Act.put, List.setIfInBounds_toArray, List.set_cons_zero, List.set_cons_succ]
      refine wpAnyH_done (by kernel_rfl) ?_ _
      have HB := Lib.hid hHeld
      clear hHeld
      go_wp2_with fail
      go_ret
      exact ⟨rfl, HPV.out _ HB.out⟩
end Go.Proofs.YtciijpahjjoppaaGreat
end
