/-
  Texts of this proof, put together.
-/
import Derived.Test.YtciijpahjjoppaaGreatPn12
import Derived.Test.YtciijpahjjoppaaGreatPn9
section
namespace Go.Proofs.YtciijpahjjoppaaGreat
open Go.RowKit Go.Deep Go.Shelf Go.Maps

set_option maxRecDepth 100000 in
set_option maxHeartbeats 4000000 in
theorem names_any (K : Nat) (w : World) (x : List D) (vs : List Value) (hx : ShG x) (hK : mRow x < K) (hb : mRow x ≤ 2000000) (hv : AllAt w vs x) : Calls Tryz.prog 19 #[.agg ⟨vs⟩] w (NamPost ((namClo (w.heap.size + 1)).pts [] (nG K x)).2 w) := by
  have hmm := @run_makeMap Tryz.prog
  have HT := Lib.hid (tprogram_all (namClo (w.heap.size + 1)) (.inl rfl) (fun _ _ h => h) w (show w.heap.size ≤ w.heap.size + 1 by omega) K x hx hK (by omega) vs hv)
  have HN := Lib.hid (nG_ok K hx).1
  have HST := Lib.hid (fun s => tG_state (namClo (w.heap.size + 1)) K s hx)
  obtain ⟨nm, be, mi, af, rc, vr, rt, bd, en, bea, bec, mia, mic, afa, afc, rca, rcc, vra, vrc, rta, rtc, bda, bdc, ena, enc, hxe, rfl, _⟩ := hv.openG hx
  clear hv hx hxe
  go_enter Tryz.func19, Tryz.ntmps19
  have LN := Lib.hid (show ([.func (.func 50) #[] #[.pointer (some ⟨w.heap.size + 1 + 1 + 1, 0, none⟩), .pointer (some ⟨w.heap.size + 1, 0, none⟩)]] : List Value).length = 1 from rfl)
  have ON := Lib.hid (show ∀ v ∈ ([.func (.func 50) #[] #[.pointer (some ⟨w.heap.size + 1 + 1 + 1, 0, none⟩), .pointer (some ⟨w.heap.size + 1, 0, none⟩)]] : List Value), v.oneCell' = true by intro v hv; simp at hv; subst hv; rfl)
  go_wp2_with (first
    | ((with_reducible refine wp_storeNew (o := ⟨none, .store 97 (.tmp 5) (.tmp 8), _, _, _, _⟩) rfl (.tmp 5) (.tmp 8) 97 rfl 1 Tryz.sizeOf97 _ ?_ ?_ [.func (.func 50) #[] #[.pointer (some ⟨w.heap.size + 1 + 1 + 1, 0, none⟩), .pointer (some ⟨w.heap.size + 1, 0, none⟩)]] ?_ LN.out ON.out ?_); rfl; (simp only [World.size_alloc]; rfl); rfl))
  have I0 := Lib.hid (namesW0 w (.cells #[.string nm, .slice bea be.length bec, .slice mia mi.length mic, .slice afa af.length afc, .slice rca rc.length rcc, .slice vra vr.length vrc, .slice rta rt.length rtc, .slice bda bd.length bdc, .slice ena en.length enc] 35) #[.func (.func 50) #[] #[.pointer (some ⟨w.heap.size + 1 + 1 + 1, 0, none⟩), .pointer (some ⟨w.heap.size + 1, 0, none⟩)]] (0 + (nG K x).length) (by have := HN.out; omega))
  have B0 := Lib.hid (below5 w (.cells #[.string nm, .slice bea be.length bec, .slice mia mi.length mic, .slice afa af.length afc, .slice rca rc.length rcc, .slice vra vr.length vrc, .slice rta rt.length rtc, .slice bda bd.length bdc, .slice ena en.length enc] 35) (.cells #[.slice none 0 0] 29) (.map #[] 0) (.cells #[.map (some (w.heap.size + 1 + 1))] 92) (.cells #[.func (.func 50) #[] #[.pointer (some ⟨w.heap.size + 1 + 1 + 1, 0, none⟩), .pointer (some ⟨w.heap.size + 1, 0, none⟩)]] 97))
  refine (HT.out 0 _ [] _ (Nat.le_refl _) I0.out B0.out).mono ?_
  rintro e W1 ⟨vs', rfl, _, i1, k1⟩
  have B1 := Lib.hid (k1.toBelow B0.out (Nat.le_refl _) (fun c hc ho => by have := ((namClo (w.heap.size + 1)).ltO I0.out ho).1; have : w.heap.size + 1 ≤ c := this; omega))
  have I1 : NamesI (w.heap.size + 1) 0 ((namClo (w.heap.size + 1)).pts [] (nG K x)).2 W1 := by
    have h : NamesI (w.heap.size + 1) 0 (tG (namClo (w.heap.size + 1)) K [] x).2 W1 := i1
    rwa [HST.out] at h
  obtain ⟨v, hv, hr⟩ := I1.row
  have HR := Lib.hid hr
  have cv := hv.cell
  clear I1 i1 k1 hr hv
  go_wp2_with fail
  go_ret
  exact ⟨v, rfl, ownS_mono HR.out (by omega), B1.out⟩
end Go.Proofs.YtciijpahjjoppaaGreat
end
section
namespace Go.Proofs.YtciijpahjjoppaaGreat
open Go.RowKit Go.Deep Go.Shelf Go.Maps

def addN (s : List ByteArray) (x : ByteArray) : List ByteArray := if x.size = 0 then s else addName s x
def foldN (l : List ByteArray) : List ByteArray := l.foldl addN []
theorem foldN_snoc (l : List ByteArray) (x : ByteArray) : foldN (l ++ [x]) = addN (foldN l) x := by unfold foldN; rw [List.foldl_append]; rfl
theorem namClo_fold (b0 : Nat) : ∀ (l s : List ByteArray), ((namClo b0).pts s l).2 = l.foldl addN s
  | [], _ => rfl
  | x :: l, s => by
    have e : ((namClo b0).pt s x).2 = addN s x := by
      unfold Clo.pt addN
      split <;> rfl
    show ((namClo b0).pts ((namClo b0).pt s x).2 l).2 = _
    rw [namClo_fold b0 l, e]
    rfl
theorem addN_len (s : List ByteArray) (x : ByteArray) : (addN s x).length ≤ s.length + 1 := by
  unfold addN addName
  split
  · omega
  · split
    · omega
    · simp
theorem addN_mem {s : List ByteArray} {x y : ByteArray} (h : y ∈ addN s x) : y ∈ s ∨ y = x := by
  unfold addN addName at h
  split at h
  · exact .inl h
  · split at h
    · exact .inl h
    · rcases List.mem_append.1 h with h | h
      · exact .inl h
      · exact .inr (List.mem_singleton.1 h)
theorem foldN_ok (l : List ByteArray) : ∀ s : List ByteArray, (l.foldl addN s).length ≤ s.length + l.length ∧ ∀ y ∈ l.foldl addN s, y ∈ s ∨ y ∈ l := by
  induction l with
  | nil => intro s; exact ⟨by simp, fun y hy => .inl hy⟩
  | cons x l ih =>
    intro s
    have h := ih (addN s x)
    have h2 := addN_len s x
    refine ⟨by simp only [List.foldl_cons, List.length_cons]; omega, fun y hy => ?_⟩
    rcases h.2 y hy with h3 | h3
    · rcases addN_mem h3 with h4 | h4
      · exact .inl h4
      · exact .inr (by simp [h4])
    · exact .inr (by simp [h3])
theorem empty_size (x : ByteArray) : x.toList.isEmpty = decide (x.size = 0) := by
  rw [ByteArray.toList_eq, Bool.eq_iff_iff, decide_eq_true_eq, List.isEmpty_iff, Array.toList_eq_nil_iff]
  constructor
  · intro h
    show x.data.size = 0
    rw [h]; rfl
  · intro h
    exact Array.size_eq_zero_iff.1 h
theorem heap_of_at {w : World} {a : Option Addr} {len cap : Nat} {ss : List ByteArray} (h : IsStrs w a len cap ss) {k : Nat} (hk : k < len) : ∀ {b o : Nat}, a = some ⟨b, o, none⟩ → b < w.heap.size := fun {b o} e => by
  rcases h.2.2.2.2 with h0 | ⟨b', o', e', hb, _⟩
  · omega
  · rw [e] at e'; cases e'; exact hb
theorem one_strs (w : World) (x : ByteArray) (hx : x.size ≤ maxLen) : IsStrs (w.alloc (.cells #[.string x] 9)) (some ⟨w.heap.size, 0, none⟩) 1 1 [x] := by
  refine ⟨rfl, Nat.le_refl _, by decide, fun y hy => by rw [List.mem_singleton.1 hy]; exact hx, .inr ⟨w.heap.size, 0, rfl, by simp, fun j y hy => ?_⟩⟩
  rw [box_cells (heap_new w (.cells #[.string x] 9))]
  match j, hy with
  | 0, hy => simp at hy; subst hy; rfl
  | j + 1, hy => simp at hy
set_option maxRecDepth 100000 in
set_option maxHeartbeats 16000000 in
theorem refNames_any (K : Nat) (w : World) (x : List D) (vs : List Value) (hx : ShG x) (hK : mRow x < K) (hb : mRow x ≤ 2000000) (hv : AllAt w vs x) : Calls Tryz.prog 20 #[.agg ⟨vs⟩] w (NmsPost (foldN (nG K x)) w) := by
  have HN := Lib.hid (show (nG K x).length ≤ 2000000 by have := (nG_ok K hx).1; omega)
  have HZ := Lib.hid (show ∀ p ∈ nG K x, p.size ≤ 2000000 from fun p hp => by have := (nG_ok K hx).2 p hp; omega)
  obtain ⟨nm, be, mi, af, rc, vr, rt, bd, en, bea, bec, mia, mic, afa, afc, rca, rcc, vra, vrc, rta, rtc, bda, bdc, ena, enc, hxe, rfl, i0, a_be, a_mi, a_af, a_rc, a_vr, a_rt, a_bd, a_en, t_be, t_mi, t_af, t_rc, t_vr, t_rt, t_bd, t_en⟩ := hv.openG hx
  have ALLE := Lib.hid (show ((((parts nm ++ rc.flatMap nC) ++ vr.flatMap nV) ++ rt.flatMap (nR K)) ++ bd.flatMap (nS K)) = nG K x by rw [hxe]; simp only [nG, List.append_assoc])
  have BK := Lib.hid (show (parts nm).length + ((rc.flatMap nC).length + ((vr.flatMap nV).length + ((rt.flatMap (nR K)).length + (bd.flatMap (nS K)).length))) ≤ 2000000 by have := HN.out; rw [← ALLE.out] at this; simp only [List.length_append] at this; omega)
  rw [hxe] at hb hK
  simp only [mRow, mD] at hb hK
  have hz1 : nm.size ≤ 2000000 := by omega
  have BC := Lib.hid (show mRows rc ≤ 2000000 by omega)
  have KV := Lib.hid (fun (V : World) (hV : Below w.heap.size w V) => refVarNames_any w vra vr.length vrc vr a_vr t_vr (by omega) V hV)
  have KR := Lib.hid (refRoutineNames_any w K rt t_rt (by omega) (fun y hy => by have := mRows_mem hy; omega) rta rtc a_rt)
  have KS := Lib.hid (refStmtNames_any w K bd t_bd (by omega) (fun y hy => by have := mRows_mem hy; omega) bda bdc a_bd)
  have AC := Lib.hid a_rc
  have TC := Lib.hid t_rc
  have hlrc := a_rc.len_le
  have HW := Lib.hid ((Below.refl w.heap.size w).alloc (Nat.le_refl _) (.cells #[.string nm, .slice bea be.length bec, .slice mia mi.length mic, .slice afa af.length afc, .slice rca rc.length rcc, .slice vra vr.length vrc, .slice rta rt.length rtc, .slice bda bd.length bdc, .slice ena en.length enc] 35))
  have BXC := Lib.hid (fun (V : World) (hb : Below (w.alloc (.cells #[.string nm, .slice bea be.length bec, .slice mia mi.length mic, .slice afa af.length afc, .slice rca rc.length rcc, .slice vra vr.length vrc, .slice rta rt.length rtc, .slice bda bd.length bdc, .slice ena en.length enc] 35)).heap.size (w.alloc (.cells #[.string nm, .slice bea be.length bec, .slice mia mi.length mic, .slice afa af.length afc, .slice rca rc.length rcc, .slice vra vr.length vrc, .slice rta rt.length rtc, .slice bda bd.length bdc, .slice ena en.length enc] 35)) V) => box_cells ((hb.block w.heap.size (by simp)).trans (heap_new w (.cells #[.string nm, .slice bea be.length bec, .slice mia mi.length mic, .slice afa af.length afc, .slice rca rc.length rcc, .slice vra vr.length vrc, .slice rta rt.length rtc, .slice bda bd.length bdc, .slice ena en.length enc] 35))))
  clear hx hv hb hK a_be a_mi a_af a_rc a_vr a_rt a_bd a_en t_be t_mi t_af t_rc t_vr t_rt t_bd t_en i0
  generalize hnV : vr.flatMap nV = nV' at *
  generalize hnR : rt.flatMap (nR K) = nR' at *
  generalize hnS : bd.flatMap (nS K) = nS' at *
  clear hnV hnR hnS
  go_enter Tryz.func20, Tryz.ntmps20
  go_wp2_with fail
  refine (refPartsN nm hz1 _).mono ?_
  rintro e w1 ⟨a1, p1, rfl, s1, o1, b1⟩
  have J1 := Lib.hid (show AccJ (w.alloc (.cells #[.string nm, .slice bea be.length bec, .slice mia mi.length mic, .slice afa af.length afc, .slice rca rc.length rcc, .slice vra vr.length vrc, .slice rta rt.length rtc, .slice bda bd.length bdc, .slice ena en.length enc] 35)) (.slice a1 (parts nm).length p1) (parts nm) w1 from ⟨o1, b1⟩)
  clear b1 s1 o1
  have BTJ := Lib.hid (show (0 : Nat) ≤ 0 from Nat.le_refl _)
  have cA := BXC.out _ J1.out.bel
  go_wp2_with fail
  go_loopw [3, 4] (fun u i wr => ∃ (k : Nat) (v : Value), k ≤ rc.length ∧ v = u ∧ i = .int .i64 k ∧ Hid (AccJ (w.alloc (.cells #[.string nm, .slice bea be.length bec, .slice mia mi.length mic, .slice afa af.length afc, .slice rca rc.length rcc, .slice vra vr.length vrc, .slice rta rt.length rtc, .slice bda bd.length bdc, .slice ena en.length enc] 35)) v (parts nm ++ (rc.take k).flatMap nC) wr)) (fun _ i _ => rc.length - (intOf i).toNat)
  case atStart => exact ⟨0, _, Nat.zero_le _, rfl, rfl, by simpa using J1⟩
  case round =>
    obtain ⟨k, v, hk, rfl, rfl, HJ⟩ := hrel
    clear cA
    have cA := BXC.out _ HJ.out.bel
    by_cases hlt : k < rc.length
    · obtain ⟨b, o, vs, ds, rfl, hbl, hx, hv, hc⟩ := AC.out.elem hlt
      obtain ⟨m0, m1, rnm, fs, re, m0a, m0c, m1a, m1c, fsa, fsc, rea, rec, hds, hvs, _, _, _, a_fs, _, _, _, t_fs, _⟩ := hv.openC (TC.out _ (List.mem_of_getElem? hx))
      subst hvs
      have hdl : ds.length = 5 := by rw [hds]; rfl
      rw [hdl] at hc
      have hbm := mRows_mem (List.mem_of_getElem? hx)
      rw [hds] at hbm
      simp only [mRow, mD] at hbm
      have hr1 : rnm.size ≤ 2000000 := by have := BC.out; omega
      have BF := Lib.hid (show mRows fs ≤ 2000000 by have := BC.out; omega)
      have BTC := Lib.hid (show ((rc.take k).flatMap nC).length + ((parts rnm).length + (fs.flatMap nF).length) ≤ (rc.flatMap nC).length by have := take_flat (h := nC) hx; rw [hds] at this; simpa [nC] using this)
      have TK := Lib.hid (show (rc.take (k + 1)).flatMap nC = ((rc.take k).flatMap nC ++ parts rnm) ++ fs.flatMap nF by rw [take_flat_succ hx, hds, List.append_assoc]; rfl)
      have AF := Lib.hid a_fs
      have TF := Lib.hid t_fs
      have hlfs := a_fs.len_le
      have HC2 := Lib.hid (hc 2 _ rfl)
      have HC3 := Lib.hid (hc 3 _ rfl)
      have bw := Nat.lt_of_lt_of_le hbl (HJ.out.on HW.out).size
      have c2 := ((HJ.out.on HW.out).cell (p := ⟨b, o + k * 5 + 2, none⟩) hbl).trans HC2.out
      clear hx hds hdl hc hv hbm a_fs t_fs BTJ
      have BTJ := BTC
      go_wp2_with fail
      refine (refPartsN rnm hr1 _).mono ?_
      rintro e w2 ⟨a2, p2, rfl, s2, _, b2⟩
      have J2 := Lib.hid (HJ.out.step b2)
      have U2 := Lib.hid s2
      clear b2 s2 cA c2 bw
      go_wp2_with (first
        | (refine wp_appS rfl (.tmp 18) (.tmp 25) rfl J2.out.own J2.out.bel.size U2.out rfl rfl (by have := BK.out; have := BTJ.out; (try simp only [List.length_append]); omega) ?_; intro v3 w3 ho hg; have w3A := Lib.hid (J2.out.grown ho hg); clear ho hg; have cA := BXC.out _ w3A.out.bel; have bw := Nat.lt_of_lt_of_le hbl (w3A.out.on HW.out).size; have c3 := ((w3A.out.on HW.out).cell (p := ⟨b, o + k * 5 + 3, none⟩) hbl).trans HC3.out))
      obtain ⟨wo, hwo⟩ : ∃ wo, wo = wr := ⟨_, rfl⟩
      clear hwo
      go_loopw [3, 5] (fun u i wr => ∃ (j : Nat) (v : Value), j ≤ fs.length ∧ v = u ∧ i = .int .i64 j ∧ Hid (AccJ (w.alloc (.cells #[.string nm, .slice bea be.length bec, .slice mia mi.length mic, .slice afa af.length afc, .slice (some ⟨b, o, none⟩) rc.length rcc, .slice vra vr.length vrc, .slice rta rt.length rtc, .slice bda bd.length bdc, .slice ena en.length enc] 35)) v (((parts nm ++ (rc.take k).flatMap nC) ++ parts rnm) ++ (fs.take j).flatMap nF) wr)) (fun _ i _ => fs.length - (intOf i).toNat)
      case atStart => exact ⟨0, _, Nat.zero_le _, rfl, rfl, by simpa using w3A⟩
      case round =>
        obtain ⟨j, v4, hj, rfl, rfl, HJE⟩ := hrel
        clear cA c3 bw
        have cA := BXC.out _ HJE.out.bel
        have bw := Nat.lt_of_lt_of_le hbl (HJE.out.on HW.out).size
        have c3 := ((HJE.out.on HW.out).cell (p := ⟨b, o + k * 5 + 3, none⟩) hbl).trans HC3.out
        by_cases hjt : j < fs.length
        · obtain ⟨b2, o2, us, es, rfl, hbl2, hy, hu, hc2⟩ := AF.out.elem hjt
          obtain ⟨f0, f1, fnm, fkd, f0a, f0c, f1a, f1c, hes, hus, _⟩ := hu.openF (TF.out _ (List.mem_of_getElem? hy))
          subst hus
          have hel : es.length = 4 := by rw [hes]; rfl
          rw [hel] at hc2
          have hbp := mRows_mem (List.mem_of_getElem? hy)
          rw [hes] at hbp
          simp only [mRow, mD] at hbp
          have hq1 : fnm.size ≤ 2000000 := by have := BF.out; omega
          have BT2 := Lib.hid (show ((fs.take j).flatMap nF).length + (parts fnm).length ≤ (fs.flatMap nF).length by have := take_flat (h := nF) hy; rw [hes] at this; simpa [nF] using this)
          have TP2 := Lib.hid (show (fs.take (j + 1)).flatMap nF = (fs.take j).flatMap nF ++ parts fnm by rw [take_flat_succ hy, hes]; rfl)
          have HD2 := Lib.hid (hc2 2 _ rfl)
          have bw2 := Nat.lt_of_lt_of_le hbl2 (HJE.out.on HW.out).size
          have d2 := ((HJE.out.on HW.out).cell (p := ⟨b2, o2 + j * 4 + 2, none⟩) hbl2).trans HD2.out
          clear hy hu hc2 hel hes hbp BTJ
          have BTJ := Lib.hid (show ((rc.take k).flatMap nC).length + ((parts rnm).length + (((fs.take j).flatMap nF).length + (parts fnm).length)) ≤ (rc.flatMap nC).length by have := BTC.out; have := BT2.out; omega)
          go_wp2_with fail
          refine (refPartsN fnm hq1 _).mono ?_
          rintro e w5 ⟨a5, p5, rfl, s5, _, b5⟩
          have J5 := Lib.hid (HJE.out.step b5)
          have U5 := Lib.hid s5
          clear b5 s5 cA d2 bw2 bw c3
          go_wp2_with (first
            | (refine wp_appS rfl (.tmp 38) (.tmp 49) rfl J5.out.own J5.out.bel.size U5.out rfl rfl (by have := BK.out; have := BTJ.out; (try simp only [List.length_append]); omega) ?_; intro v6 w6 ho hg; have w6A := Lib.hid (J5.out.grown ho hg); clear ho hg))
          go_roundw
          case rel => exact ⟨j + 1, v6, by omega, rfl, by go_num, by rw [TP2.out, ← List.append_assoc]; exact w6A⟩
          case measure => simp [intOf]; omega
        · obtain rfl : j = fs.length := by omega
          have JX := HJE
          rw [List.take_length] at JX
          clear HJE
          go_wp2_with fail
          go_roundw
          case rel => exact ⟨k + 1, v4, by omega, rfl, by go_num, by rw [TK.out, ← List.append_assoc, ← List.append_assoc]; exact JX⟩
          case measure => simp [intOf]; omega
    · obtain rfl : k = rc.length := by omega
      have JX := HJ
      rw [List.take_length] at JX
      clear HJ
      go_wp2_with fail
      refine (KV.out _ (JX.out.on HW.out)).mono ?_
      rintro e w7 ⟨a7, p7, rfl, s7, _, b7⟩
      have J7 := Lib.hid (JX.out.step b7)
      have U7 := Lib.hid s7
      clear b7 s7 cA
      go_wp2_with (first
        | (refine wp_appS rfl (.tmp 51) (.tmp 54) rfl J7.out.own J7.out.bel.size U7.out rfl rfl (by have := BK.out; have := BTJ.out; (try simp only [List.length_append]); omega) ?_; intro v8 w8 ho hg; have w8A := Lib.hid (J7.out.grown ho hg); clear ho hg; have cA := BXC.out _ w8A.out.bel))
      refine (KR.out _ (w8A.out.on HW.out)).mono ?_
      rintro e w9 ⟨a9, p9, rfl, s9, _, b9⟩
      have J9 := Lib.hid (w8A.out.step b9)
      have U9 := Lib.hid s9
      clear b9 s9 cA
      go_wp2_with (first
        | (refine wp_appS rfl (.tmp 56) (.tmp 59) rfl J9.out.own J9.out.bel.size U9.out rfl rfl (by have := BK.out; have := BTJ.out; (try simp only [List.length_append]); omega) ?_; intro v10 w10 ho hg; have w10A := Lib.hid (J9.out.grown ho hg); clear ho hg; have cA := BXC.out _ w10A.out.bel))
      refine (KS.out _ (w10A.out.on HW.out)).mono ?_
      rintro e w11 ⟨a11, p11, rfl, s11, _, b11⟩
      have J11 := Lib.hid (w10A.out.step b11)
      have U11 := Lib.hid s11
      clear b11 s11 cA
      go_wp2_with (first
        | (refine wp_appS rfl (.tmp 61) (.tmp 64) rfl J11.out.own J11.out.bel.size U11.out rfl rfl (by have := BK.out; have := BTJ.out; (try simp only [List.length_append]); omega) ?_; intro v12 w12 ho hg; have w12A := Lib.hid (J11.out.grown ho hg); clear ho hg))
      have HALL := ALLE.out
      have J12 := w12A.out
      rw [HALL] at J12
      obtain ⟨aA, pA, rfl, hsA⟩ := J12.own.strs (fun p hp => by have := HZ.out p hp; unfold maxLen; omega)
      have HSA := Lib.hid hsA
      have HBE := Lib.hid J12.bel
      clear J12 w12A HALL hsA
      generalize hnG : nG K x = all at *
      clear hnG
      have hall : all.length ≤ 2000000 := HN.out
      obtain ⟨wE, hwE⟩ : ∃ wE, wE = w12 := ⟨_, rfl⟩
      rw [← hwE] at HSA HBE ⊢
      clear hwE
      go_loopw [6, 7] (fun u i wr => ∃ (k : Nat) (v : Value), k ≤ all.length ∧ v = u ∧ i = .int .i64 k ∧ Hid (AccJ wE v (foldN (all.take k)) wr)) (fun _ i _ => all.length - (intOf i).toNat)
      case atStart => exact ⟨0, _, Nat.zero_le _, rfl, rfl, Lib.hid (AccJ.start wE)⟩
      case round =>
        obtain ⟨k, v, hk, rfl, rfl, HJ⟩ := hrel
        by_cases hlt : k < all.length
        · obtain ⟨b, o, x1, rfl, hx1, hxs, hc1⟩ := HSA.out.at hlt
          have hbl := heap_of_at HSA.out hlt rfl
          have c0 := (HJ.out.bel.cell (p := ⟨b, o + k, none⟩) hbl).trans hc1
          have bw := Nat.lt_of_lt_of_le hbl HJ.out.bel.size
          have TK := Lib.hid (show foldN (all.take (k + 1)) = addN (foldN (all.take k)) x1 by rw [List.take_add_one, hx1]; exact foldN_snoc _ _)
          have OK := Lib.hid (show (foldN (all.take k)).length ≤ 2000000 ∧ ∀ p ∈ foldN (all.take k), p.size ≤ 2000000 from by
            have h := foldN_ok (all.take k) []
            refine ⟨by have := List.length_take_le k all; have h1 := h.1; simp only [List.length_nil] at h1; unfold foldN; omega, fun p hp => ?_⟩
            rcases h.2 p hp with h2 | h2
            · simp at h2
            · exact HZ.out p (List.mem_of_mem_take h2))
          clear hx1 hc1
          generalize foldN (all.take k) = acc at *
          cases hem : x1.toList.isEmpty with
          | true =>
            have h2 : (x1.toList == []) = true := by rw [← hem]; cases x1.toList <;> rfl
            have HA2 := Lib.hid (show addN acc x1 = acc by unfold addN; rw [if_pos (by rw [empty_size] at hem; simpa using hem)])
            go_wp2_with fail
            go_roundw
            case rel => exact ⟨k + 1, v, by omega, rfl, by go_num, by rw [TK.out, HA2.out]; exact HJ⟩
            case measure => simp [intOf]; omega
          | false =>
            have h2 : (x1.toList == []) = false := by rw [← hem]; cases x1.toList <;> rfl
            have HA2 := Lib.hid (show addN acc x1 = addName acc x1 by unfold addN; rw [if_neg (by rw [empty_size] at hem; simpa using hem)])
            obtain ⟨a2, p2, rfl, hs2⟩ := HJ.out.own.strs (fun p hp => by have := OK.out.2 p hp; unfold maxLen; omega)
            have S2 := Lib.hid hs2
            clear hs2
            go_wp2_with fail
            refine (among_any a2 _ p2 acc x1 _ S2.out).mono ?_
            rintro e w13 ⟨rfl, rfl⟩
            cases hin : isIn x1 acc with
            | true =>
              have HA3 := Lib.hid (show addName acc x1 = acc by unfold addName; rw [hin]; rfl)
              clear hin
              go_wp2_with fail
              go_roundw
              case rel => exact ⟨k + 1, _, by omega, rfl, by go_num, by rw [TK.out, HA2.out, HA3.out]; exact HJ⟩
              case measure => simp [intOf]; omega
            | false =>
              have HA3 := Lib.hid (show addName acc x1 = acc ++ [x1] by unfold addName; rw [hin]; rfl)
              clear hin
              have J14 := Lib.hid (HJ.out.step ((Below.refl _ _).alloc (Nat.le_refl _) (.cells #[.string x1] 9)))
              have U14 := Lib.hid (one_strs w13 x1 hxs)
              go_wp2_with (first
                | (refine wp_appS rfl (.tmp 86) (.tmp 91) rfl J14.out.own J14.out.bel.size U14.out rfl rfl (by have := OK.out.1; simp; omega) ?_; intro v15 w15 ho hg; have w15A := Lib.hid (J14.out.grown ho hg); clear ho hg))
              go_roundw
              case rel => exact ⟨k + 1, v15, by omega, rfl, by go_num, by rw [TK.out, HA2.out, HA3.out]; exact w15A⟩
              case measure => simp [intOf]; omega
        · obtain rfl : k = all.length := by omega
          have HE := HJ.out
          rw [List.take_length] at HE
          obtain ⟨a', cap', rfl, HP⟩ := nms_done HE (fun p hp => by
            rcases (foldN_ok all []).2 p hp with h2 | h2
            · simp at h2
            · exact HZ.out p h2)
          have HP := Lib.hid HP
          clear HE HJ
          go_wp2_with fail
          go_ret
          obtain ⟨a7, p7, he, h1, h2, h3⟩ := HP.out
          have hww := ((Below.refl w.heap.size w).alloc (Nat.le_refl _) (.cells #[.string nm, .slice bea be.length bec, .slice mia mi.length mic, .slice afa af.length afc, .slice rca rc.length rcc, .slice vra vr.length vrc, .slice rta rt.length rtc, .slice bda bd.length bdc, .slice ena en.length enc] 35)).trans (HBE.out.mono (by simp))
          exact ⟨a7, p7, he, h1, h2.mono hww.size, hww.trans (h3.mono hww.size)⟩
end Go.Proofs.YtciijpahjjoppaaGreat
end
section
namespace Go.Proofs.YtciijpahjjoppaaGreat
open Go.RowKit Go.Deep Go.Shelf Go.Maps

def gatherL (s : List ByteArray) (l : List ByteArray) : List ByteArray := l.foldl (fun s x => if x.size = 0 then s else addName s x) s
theorem nam_pts (b0 : Nat) (s l : List ByteArray) : (namClo b0).pts s l = (l, gatherL s l) := by
  induction l generalizing s with
  | nil => rfl
  | cons x l ih =>
    show (((namClo b0).pt s x).1 :: ((namClo b0).pts ((namClo b0).pt s x).2 l).1, ((namClo b0).pts ((namClo b0).pt s x).2 l).2) = _
    rw [ih]
    have e1 : ((namClo b0).pt s x).1 = x := by unfold Clo.pt; split <;> rfl
    have e2 : ((namClo b0).pt s x).2 = if x.size = 0 then s else addName s x := by unfold Clo.pt; split <;> rfl
    rw [e1, e2]
    rfl
theorem nam_nm (b0 : Nat) (s : List ByteArray) (x : ByteArray) : ((namClo b0).nm s x).2 = gatherL s (parts x) := by
  unfold Clo.nm
  rw [nam_pts]
theorem ok_p : okName 0 ⟨#[112]⟩ = true := by decide +kernel
theorem ok_begin : okName 0 ⟨#[98, 101, 103, 105, 110]⟩ = false := by decide +kernel
theorem ren_p : renName [(⟨#[112]⟩, ⟨#[113]⟩)] ⟨#[112]⟩ = ⟨#[113]⟩ := by decide +kernel
theorem gat_p : gatherL [] (parts ⟨#[112]⟩) = [⟨#[112]⟩] := by decide +kernel
theorem gat_q : gatherL [] (parts ⟨#[113]⟩) = [⟨#[113]⟩] := by decide +kernel
theorem names_p (w : World) : Calls Tryz.prog 19 #[.agg #[.string ⟨#[112]⟩, .slice none 0 0, .slice none 0 0, .slice none 0 0, .slice none 0 0, .slice none 0 0, .slice none 0 0, .slice none 0 0, .slice none 0 0]] w (NamPost [⟨#[112]⟩] w) := by
  have := namesEmp ⟨#[112]⟩ w (by decide) (by decide +kernel)
  rw [nam_nm, gat_p] at this
  exact this
theorem names_q (w : World) : Calls Tryz.prog 19 #[.agg #[.string ⟨#[113]⟩, .slice none 0 0, .slice none 0 0, .slice none 0 0, .slice none 0 0, .slice none 0 0, .slice none 0 0, .slice none 0 0, .slice none 0 0]] w (NamPost [⟨#[113]⟩] w) := by
  have := namesEmp ⟨#[113]⟩ w (by decide) (by decide +kernel)
  rw [nam_nm, gat_q] at this
  exact this
theorem pairs_one (w : World) : PairsAt (w.alloc (.cells #[.string ⟨#[112]⟩, .string ⟨#[113]⟩] 47)) (some ⟨w.heap.size, 0, none⟩) 1 1 [(⟨#[112]⟩, ⟨#[113]⟩)] := by
  refine ⟨rfl, Nat.le_refl _, by decide, fun p hp => ?_, .inr ⟨w.heap.size, 0, rfl, by simp, fun j p hp => ?_⟩⟩
  · obtain rfl := List.mem_singleton.1 hp
    exact ⟨by decide, by decide⟩
  · have hj : j = 0 := by
      have := (List.getElem?_eq_some_iff.1 hp).1
      simp at this
      exact this
    subst hj
    obtain rfl : (⟨#[112]⟩, ⟨#[113]⟩) = p := by simpa using hp
    rw [box_cells (heap_new w _), box_cells (heap_new w _)]
    exact ⟨rfl, rfl⟩
theorem rename_p (w : World) (n : Nat) (hn : w.heap.size = n) : Calls Tryz.prog 22 #[.agg #[.string ⟨#[112]⟩, .slice none 0 0, .slice none 0 0, .slice none 0 0, .slice none 0 0, .slice none 0 0, .slice none 0 0, .slice none 0 0, .slice none 0 0], .slice (some ⟨n, 0, none⟩) 1 1] (w.alloc (.cells #[.string ⟨#[112]⟩, .string ⟨#[113]⟩] 47)) fun e w' => e = .returned (.agg #[.string ⟨#[113]⟩, .slice none 0 0, .slice none 0 0, .slice none 0 0, .slice none 0 0, .slice none 0 0, .slice none 0 0, .slice none 0 0, .slice none 0 0]) ∧ Below w.heap.size w w' := by
  subst hn
  refine (renameEmp ⟨#[112]⟩ _ 1 1 _ _ (by decide) (pairs_one w)).mono fun e w' ⟨h1, h2⟩ => ?_
  rw [ren_p] at h1
  exact ⟨h1, ((Below.refl _ w).alloc (Nat.le_refl _) _).trans (h2.mono (by simp))⟩
theorem texts_one (base : Nat) (w : World) (v : Value) (x : ByteArray) (h : OwnS base w v [x]) (hx : x.size ≤ maxLen) (n : Nat) (hn : w.heap[n]? = some (.cells #[.string x] 9)) : Calls Tryz.prog 18 #[v, .slice (some ⟨n, 0, none⟩) 1 1] w fun e w' => e = .returned (.bool true) ∧ Below w.heap.size w w' := by
  obtain ⟨a, cap, rfl, hS⟩ := h.strs (fun y hy => by rw [List.mem_singleton.1 hy]; exact hx)
  have hL : IsStrs w (some ⟨n, 0, none⟩) 1 1 [x] := isStrs_row (ss := [x]) hn (show 1 ≤ maxLen by decide) (fun y hy => by rw [List.mem_singleton.1 hy]; exact hx)
  refine (sameTexts_any a _ 1 cap 1 1 [x] [x] w hS hL).mono fun e w' ⟨h1, q, h2⟩ => ?_
  rw [sameL_refl] at h1
  subst h2
  exact ⟨h1, below_drewN (Below.refl _ _) q⟩

set_option maxRecDepth 100000 in
set_option maxHeartbeats 4000000 in
theorem awake_any (w : World) : Calls Tryz.prog 11 #[] w fun e w' => e = .returned (.bool true) ∧ Below w.heap.size w w' := by
  go_enter Tryz.func11, Tryz.ntmps11
  go_wp2_with fail
  with_reducible refine (rename_p (w.alloc (.cells #[.string ⟨#[112]⟩, .slice none 0 0, .slice none 0 0, .slice none 0 0, .slice none 0 0, .slice none 0 0, .slice none 0 0, .slice none 0 0, .slice none 0 0] 35)) (w.heap.size + 1) (World.size_alloc _ _)).mono ?_
  rintro e w1 ⟨rfl, b1⟩
  have b0 := (Below.refl w.heap.size w).alloc (Nat.le_refl _) (.cells #[.string ⟨#[112]⟩, .slice none 0 0, .slice none 0 0, .slice none 0 0, .slice none 0 0, .slice none 0 0, .slice none 0 0, .slice none 0 0, .slice none 0 0] 35)
  have R1 := Lib.hid (b0.trans (b1.mono b0.size))
  have K1 := Lib.hid ((b1.block w.heap.size (by simp)).trans (heap_new w (.cells #[.string ⟨#[112]⟩, .slice none 0 0, .slice none 0 0, .slice none 0 0, .slice none 0 0, .slice none 0 0, .slice none 0 0, .slice none 0 0, .slice none 0 0] 35)))
  have c1 := box_cells K1.out
  clear b0 b1
  have a2 := (Below.refl w1.heap.size w1).alloc (Nat.le_refl _) (.cells #[.string ⟨#[113]⟩, .slice none 0 0, .slice none 0 0, .slice none 0 0, .slice none 0 0, .slice none 0 0, .slice none 0 0, .slice none 0 0, .slice none 0 0] 35)
  have R2 := Lib.hid (R1.out.trans (a2.mono R1.out.size))
  have KP2 := Lib.hid ((a2.block _ (heap_lt K1.out)).trans K1.out)
  have KQ2 := Lib.hid (heap_new w1 (.cells #[.string ⟨#[113]⟩, .slice none 0 0, .slice none 0 0, .slice none 0 0, .slice none 0 0, .slice none 0 0, .slice none 0 0, .slice none 0 0, .slice none 0 0] 35))
  have cp2 := box_cells KP2.out
  clear a2 c1
  go_wp2_with fail
  with_reducible refine (checkEmp_yes ⟨#[112]⟩ _ (by decide) ok_p).mono ?_
  rintro e w3 ⟨rfl, b3⟩
  have R3 := Lib.hid (R2.out.trans (b3.mono R2.out.size))
  have KP3 := Lib.hid ((b3.block _ (heap_lt KP2.out)).trans KP2.out)
  have KQ3 := Lib.hid ((b3.block _ (heap_lt KQ2.out)).trans KQ2.out)
  have cp3 := box_cells KP3.out
  clear b3 cp2
  go_wp2_with fail
  with_reducible refine (names_p _).mono ?_
  rintro e w4 ⟨v, rfl, o4, b4⟩
  have R4 := Lib.hid (R3.out.trans (b4.mono R3.out.size))
  have KQ4 := Lib.hid ((b4.block _ (heap_lt KQ3.out)).trans KQ3.out)
  have O4 := Lib.hid o4
  clear b4 cp3 o4
  go_wp2_with fail
  have a5 := (Below.refl w4.heap.size w4).alloc (Nat.le_refl _) (.cells #[.string ⟨#[112]⟩] 9)
  with_reducible refine (texts_one _ _ v ⟨#[112]⟩ (O4.out.below a5) (by decide) _ (heap_new w4 _)).mono ?_
  rintro e w5 ⟨rfl, b5⟩
  have b5' := a5.trans (b5.mono a5.size)
  have R5 := Lib.hid (R4.out.trans (b5'.mono R4.out.size))
  have KQ5 := Lib.hid ((b5'.block _ (heap_lt KQ4.out)).trans KQ4.out)
  have cq5 := box_cells KQ5.out
  clear b5 b5' a5
  go_wp2_with fail
  with_reducible refine (names_q _).mono ?_
  rintro e w6 ⟨v6, rfl, o6, b6⟩
  have R6 := Lib.hid (R5.out.trans (b6.mono R5.out.size))
  have O6 := Lib.hid o6
  clear b6 o6 cq5
  go_wp2_with fail
  have a7 := (Below.refl w6.heap.size w6).alloc (Nat.le_refl _) (.cells #[.string ⟨#[113]⟩] 9)
  with_reducible refine (texts_one _ _ v6 ⟨#[113]⟩ (O6.out.below a7) (by decide) _ (heap_new w6 _)).mono ?_
  rintro e w7 ⟨rfl, b7⟩
  have b7' := a7.trans (b7.mono a7.size)
  have R7 := Lib.hid (R6.out.trans (b7'.mono R6.out.size))
  clear b7 b7' a7
  go_wp2_with fail
  with_reducible refine (checkEmp_no ⟨#[98, 101, 103, 105, 110]⟩ _ (by decide) ok_begin).mono ?_
  rintro e w8 ⟨rfl, b8⟩
  have R8 := Lib.hid (R7.out.trans (b8.mono R7.out.size))
  clear b8
  go_wp2_with fail
  go_ret
  exact ⟨rfl, R8.out⟩
end Go.Proofs.YtciijpahjjoppaaGreat
end
section
namespace Go.Proofs.YtciijpahjjoppaaGreat
open Go.RowKit Go.Deep Go.Shelf Go.Maps

set_option maxRecDepth 100000 in
set_option maxHeartbeats 4000000 in
theorem treeNames_walk (w : World) (x : List D) (hx : ShG x) (hb : mRow x ≤ 2000000) (vs : List Value) (hv : AllAt w vs x) :
    Calls Tryz.prog 6 #[.agg ⟨vs⟩] w fun e w' => e = .returned (.bool true) ∧ Below w.heap.size w w' := by
  have NA := Lib.hid (fun (V : World) (hV : Below w.heap.size w V) => (show Calls Tryz.prog 19 #[.agg ⟨vs⟩] V (NamPost (foldN (nG (mRow x + 1) x)) V) from by
    have h := names_any (mRow x + 1) V x vs hx (Nat.lt_succ_self _) hb (hv.stays hV)
    rwa [namClo_fold] at h))
  have RA := Lib.hid (fun (V : World) (hV : Below w.heap.size w V) => refNames_any (mRow x + 1) V x vs hx (Nat.lt_succ_self _) hb (hv.stays hV))
  have HSZ := Lib.hid (show ∀ p ∈ foldN (nG (mRow x + 1) x), p.size ≤ maxLen from fun p hp => by
    rcases (foldN_ok (nG (mRow x + 1) x) []).2 p hp with h | h
    · simp at h
    · have := (nG_ok (mRow x + 1) hx).2 p h
      unfold maxLen
      omega)
  have HSM := Lib.hid (show sameL (foldN (nG (mRow x + 1) x)) (foldN (nG (mRow x + 1) x)) = true from (sameL_iff _ _).2 rfl)
  obtain ⟨nm, be, mi, af, rc, vr, rt, bd, en, bea, bec, mia, mic, afa, afc, rca, rcc, vra, vrc, rta, rtc, bda, bdc, ena, enc, hxe, rfl, _⟩ := hv.openG hx
  generalize foldN (nG (mRow x + 1) x) = ns at *
  clear hv hx hxe hb
  have HW := Lib.hid ((Below.refl w.heap.size w).alloc (Nat.le_refl _) (.cells #[.string nm, .slice bea be.length bec, .slice mia mi.length mic, .slice afa af.length afc, .slice rca rc.length rcc, .slice vra vr.length vrc, .slice rta rt.length rtc, .slice bda bd.length bdc, .slice ena en.length enc] 35))
  have BXC := Lib.hid (fun (V : World) (hb : Below (w.heap.size + 1) (w.alloc (.cells #[.string nm, .slice bea be.length bec, .slice mia mi.length mic, .slice afa af.length afc, .slice rca rc.length rcc, .slice vra vr.length vrc, .slice rta rt.length rtc, .slice bda bd.length bdc, .slice ena en.length enc] 35)) V) => box_cells ((hb.block w.heap.size (by omega)).trans (heap_new w (.cells #[.string nm, .slice bea be.length bec, .slice mia mi.length mic, .slice afa af.length afc, .slice rca rc.length rcc, .slice vra vr.length vrc, .slice rta rt.length rtc, .slice bda bd.length bdc, .slice ena en.length enc] 35))))
  go_enter Tryz.func6, Tryz.ntmps6
  go_wp2_with fail
  refine wp_region_held (S := fun w' => Below (w.heap.size + 1) (w.alloc (.cells #[.string nm, .slice bea be.length bec, .slice mia mi.length mic, .slice afa af.length afc, .slice rca rc.length rcc, .slice vra vr.length vrc, .slice rta rt.length rtc, .slice bda bd.length bdc, .slice ena en.length enc] 35)) w') (by kernel_rfl) ?_
  have hHeld := below_drew0 (Below.refl (w.heap.size + 1) (w.alloc (.cells #[.string nm, .slice bea be.length bec, .slice mia mi.length mic, .slice afa af.length afc, .slice rca rc.length rcc, .slice vra vr.length vrc, .slice rta rt.length rtc, .slice bda bd.length bdc, .slice ena en.length enc] 35)))
  change (fun w' => Below (w.heap.size + 1) (w.alloc (.cells #[.string nm, .slice bea be.length bec, .slice mia mi.length mic, .slice afa af.length afc, .slice rca rc.length rcc, .slice vra vr.length vrc, .slice rta rt.length rtc, .slice bda bd.length bdc, .slice ena en.length enc] 35)) w') _ at hHeld
  refine wpAnyH_take (i := 0) (oi := ⟨some 3, .load 35 (.tmp 1), 35, "law.go:37", #[], none⟩) (v := ?v0) rfl (by kernel_rfl) (by kernel_rfl) (by kernel_rfl) (fun _ _ _ h => h) (Or.inl ⟨by rfl, ?hy0⟩) hHeld ?rest0
  case hy0 => (intro V hSW; have cA := BXC.out V hSW; go_simp; try with_reducible rfl)
  try simp only [Act.put, List.setIfInBounds_toArray, List.set_cons_zero, List.set_cons_succ]
  refine wpAnyH_take (i := 2) (oi := ⟨some 5, .load 35 (.tmp 1), 35, "law.go:37", #[], none⟩) (v := ?v2) rfl (by kernel_rfl) (by kernel_rfl) (by kernel_rfl) (fun _ _ _ h => h) (Or.inl ⟨by rfl, ?hy2⟩) hHeld ?rest2
  case hy2 => (intro V hSW; have cA := BXC.out V hSW; go_simp; try with_reducible rfl)
  try simp only [Act.put, List.setIfInBounds_toArray, List.set_cons_zero, List.set_cons_succ]
  refine wpAnyH_ready (rs := [1]) (by kernel_rfl) (by simp) ?_
  refine AllReadyH.cons (o := ⟨some 4, .call { callee := .value (.func 19), args := #[.tmp 3], argTypes := #[35] }, 29, "law.go:37", #[⟨0, .data⟩], none⟩) rfl (fun K hK => ?_) AllReadyH.nil
  go_simp
  go_at_call 19
  refine (NA.out _ (HW.out.trans (hHeld.mono (by omega)))).mono ?_
  rintro e w2 ⟨v2, rfl, o2, b2⟩
  have hB : Below (w.heap.size + 1) (w.alloc (.cells #[.string nm, .slice bea be.length bec, .slice mia mi.length mic, .slice afa af.length afc, .slice rca rc.length rcc, .slice vra vr.length vrc, .slice rta rt.length rtc, .slice bda bd.length bdc, .slice ena en.length enc] 35)) w2 := hHeld.trans (b2.mono (by simp))
  obtain ⟨a2, p2, rfl, s2⟩ := o2.strs HSZ.out
  have S2 := Lib.hid s2
  clear hHeld o2 b2 s2
  have hHeld := hB
  clear hB
  refine hK.out _ _ hHeld (fun _ => ?_)
  clear hK K
  try simp only [Act.put, List.setIfInBounds_toArray, List.set_cons_zero, List.set_cons_succ]
  refine wpAnyH_ready (rs := [3]) (by kernel_rfl) (by simp) ?_
  refine AllReadyH.cons (o := ⟨some 6, .call { callee := .value (.func 20), args := #[.tmp 5], argTypes := #[35] }, 29, "law.go:37", #[⟨2, .data⟩, ⟨1, .chain⟩], none⟩) rfl (fun K hK => ?_) AllReadyH.nil
  go_simp
  go_at_call 20
  refine (RA.out _ (HW.out.trans (hHeld.mono (by omega)))).mono ?_
  rintro e w3 ⟨a3, p3, rfl, s3, o3, b3⟩
  have hB : Below (w.heap.size + 1) (w.alloc (.cells #[.string nm, .slice bea be.length bec, .slice mia mi.length mic, .slice afa af.length afc, .slice rca rc.length rcc, .slice vra vr.length vrc, .slice rta rt.length rtc, .slice bda bd.length bdc, .slice ena en.length enc] 35)) w3 := hHeld.trans (b3.mono (by have := hHeld.size; simpa using this))
  have S3 := Lib.hid s3
  have S2b := Lib.hid (S2.out.kept b3.size fun b o _ h => b3.block b h)
  clear hHeld o3 b3 s3
  have hHeld := hB
  clear hB
  refine hK.out _ _ hHeld (fun _ => ?_)
  clear hK K
  try simp only [Act.put, List.setIfInBounds_toArray, List.set_cons_zero, List.set_cons_succ]
  refine wpAnyH_ready (rs := [4]) (by kernel_rfl) (by simp) ?_
  refine AllReadyH.cons (o := ⟨some 7, .call { callee := .value (.func 18), args := #[.tmp 4, .tmp 6], argTypes := #[29, 29] }, 4, "law.go:37", #[⟨1, .data⟩, ⟨3, .data⟩, ⟨3, .chain⟩], none⟩) rfl (fun K hK => ?_) AllReadyH.nil
  go_simp
  go_at_call 18
  refine (sameTexts_any a2 a3 _ p2 _ p3 _ _ _ S2b.out S3.out).mono ?_
  rintro e w4 ⟨rfl, q4, rfl⟩
  rw [HSM.out]
  have hB : Below (w.heap.size + 1) (w.alloc (.cells #[.string nm, .slice bea be.length bec, .slice mia mi.length mic, .slice afa af.length afc, .slice rca rc.length rcc, .slice vra vr.length vrc, .slice rta rt.length rtc, .slice bda bd.length bdc, .slice ena en.length enc] 35)) (w3.drewN q4) := below_drewN hHeld _
  clear hHeld
  have hHeld := hB
  clear hB
  refine hK.out _ _ hHeld (fun _ => ?_)
  clear hK K
  try simp only [Act.put, List.setIfInBounds_toArray, List.set_cons_zero, List.set_cons_succ]
  refine wpAnyH_take (i := 5) (oi := ⟨some 8, .move (.tmp 7), 4, "law.go:37", #[⟨4, .data⟩, ⟨4, .chain⟩], none⟩) (v := ?v5) rfl (by kernel_rfl) (by kernel_rfl) (by kernel_rfl) (fun _ _ _ h => h) (Or.inl ⟨by rfl, ?hy5⟩) hHeld ?rest5
  case hy5 => (intro V hSW; have cA := BXC.out V hSW; go_simp; try with_reducible rfl)
  try simp only [Act.put, List.setIfInBounds_toArray, List.set_cons_zero, List.set_cons_succ]
  refine wpAnyH_ready (rs := [6]) (by kernel_rfl) (by simp) ?_
  refine AllReadyH.cons (o := ⟨some 9, .call { callee := .value (.func 11), args := #[], argTypes := #[] }, 4, "law.go:37", #[⟨5, .chain⟩, ⟨5, .guard⟩], some (5, true)⟩) rfl (fun K hK => ?_) AllReadyH.nil
  go_simp
  go_at_call 11
  refine (awake_any _).mono ?_
  rintro e w5 ⟨rfl, b5⟩
  have hB : Below (w.heap.size + 1) (w.alloc (.cells #[.string nm, .slice bea be.length bec, .slice mia mi.length mic, .slice afa af.length afc, .slice rca rc.length rcc, .slice vra vr.length vrc, .slice rta rt.length rtc, .slice bda bd.length bdc, .slice ena en.length enc] 35)) w5 := hHeld.trans (b5.mono (by have := hHeld.size; simpa using this))
  clear hHeld b5
  have hHeld := hB
  clear hB
  refine hK.out _ _ hHeld (fun _ => ?_)
  clear hK K
  try simp only [Act.put, List.setIfInBounds_toArray, List.set_cons_zero, List.set_cons_succ]
  refine wpAnyH_take (i := 7) (oi := ⟨some 10, .pick (.tmp 8) (.tmp 9) (.const (.bool false)), 4, "law.go:37", #[⟨5, .data⟩, ⟨6, .data⟩], none⟩) (v := ?v7) rfl (by kernel_rfl) (by kernel_rfl) (by kernel_rfl) (fun _ _ _ h => h) (Or.inl ⟨by rfl, ?hy7⟩) hHeld ?rest7
  case hy7 => (intro V hSW; have cA := BXC.out V hSW; go_simp; try with_reducible rfl)
  try simp only [Act.put, List.setIfInBounds_toArray, List.set_cons_zero, List.set_cons_succ]
  refine wpAnyH_take (i := 8) (oi := ⟨some 2, .assign (.tmp 10), 4, "law.go:37", #[⟨7, .data⟩, ⟨6, .chain⟩, ⟨0, .phase⟩, ⟨1, .phase⟩, ⟨2, .phase⟩, ⟨3, .phase⟩, ⟨4, .phase⟩, ⟨5, .phase⟩, ⟨6, .phase⟩, ⟨7, .phase⟩], none⟩) (v := ?v8) rfl (by kernel_rfl) (by kernel_rfl) (by kernel_rfl) (fun _ _ _ h => h) (Or.inl ⟨by rfl, ?hy8⟩) hHeld ?rest8
  case hy8 => (intro V hSW; have cA := BXC.out V hSW; go_simp; try with_reducible rfl)
  try simp only [Act.put, List.setIfInBounds_toArray, List.set_cons_zero, List.set_cons_succ]
  refine wpAnyH_done (by kernel_rfl) ?_ _
  have HB := Lib.hid hHeld
  clear hHeld
  go_wp2_with fail
  go_ret
  exact ⟨rfl, HW.out.trans (HB.out.mono (by omega))⟩
end Go.Proofs.YtciijpahjjoppaaGreat
end
