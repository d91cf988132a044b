/-
  Rows compared by a function (slices.EqualFunc), element by element: walked, at each element type.
-/
import Derived.Test.YtciijpahjjoppaaGreatOpx
namespace Go.Proofs.YtciijpahjjoppaaGreat
open Go.RowKit Go.Deep

set_option maxRecDepth 100000 in
set_option maxHeartbeats 1000000 in
theorem equalR_any (w0 : World) (a a' : Option Addr) (len len' cap cap' : Nat) (l l' : List (List D)) (hA : At w0 (.slice a len cap) (.row l)) (hA' : At w0 (.slice a' len' cap') (.row l')) (hs : ∀ x ∈ l, ShR x) (hs' : ∀ x ∈ l', ShR x)
    (hf : EqFn w0 41 l l') (W : World) (hW : Below w0.heap.size w0 W) : Calls Tryz.prog 40 #[.slice a len cap, .slice a' len' cap', .func (.func 41) #[] #[]] W (EqPost l l' W) := by
  have HA := Lib.hid hA
  have HA' := Lib.hid hA'
  have HS := Lib.hid hs
  have HS' := Lib.hid hs'
  have HF := Lib.hid hf
  have HW := Lib.hid hW
  have hle := hA.len_le
  have hle' := hA'.len_le
  have HL := Lib.hid hA.len_eq.1
  have HL' := Lib.hid hA'.len_eq.1
  clear hA hA' hs hs' hf hW
  by_cases hn : len = len'
  · subst hn
    go_enter Tryz.func40, Tryz.ntmps40
    go_wp2_with fail
    go_loopw [17] (fun i wr => ∃ k : Nat, k ≤ len ∧ i = .int .i64 k ∧ l.take k = l'.take k ∧ Below W.heap.size W wr) (fun i _ => len - (intOf i).toNat)
    case atStart => exact ⟨0, Nat.zero_le _, rfl, rfl, Below.refl _ _⟩
    case round =>
      obtain ⟨k, hk, rfl, ht, hb⟩ := hrel
      have HT := Lib.hid ht
      have HB := Lib.hid hb
      clear ht hb
      by_cases hlt : k < len
      · obtain ⟨b, o, vs, ds, rfl, hbl, hx, hv, hc⟩ := HA.out.elem hlt
        obtain ⟨b', o', vs', ds', rfl, hbl', hx', hv', hc'⟩ := HA'.out.elem hlt
        have hfn := HF.out ds (List.mem_of_getElem? hx) ds' (List.mem_of_getElem? hx') vs vs' hv hv'
        obtain ⟨m0, m1, nm, rs, ps, vr, inn, bd, en, m0a, m0c, m1a, m1c, psa, psc, vra, vrc, inna, innc, bda, bdc, ena, enc, hds, hvs, _⟩ := hv.openR (HS.out _ (List.mem_of_getElem? hx))
        obtain ⟨m0', m1', nm', rs', ps', vr', inn', bd', en', m0a', m0c', m1a', m1c', psa', psc', vra', vrc', inna', innc', bda', bdc', ena', enc', hds', hvs', _⟩ := hv'.openR (HS'.out _ (List.mem_of_getElem? hx'))
        subst hvs hvs'
        have hdl : ds.length = 9 := by rw [hds]; rfl
        have hdl' : ds'.length = 9 := by rw [hds']; rfl
        rw [hdl] at hc
        rw [hdl'] at hc'
        clear hds hds' hdl hdl' hv hv'
        have B0 := HW.out.trans (HB.out.mono HW.out.size)
        have c0 := (B0.cell (p := ⟨b, o + k * 9, none⟩) hbl).trans (hc 0 _ rfl)
        have c1 := (B0.cell (p := ⟨b, o + k * 9 + 1, none⟩) hbl).trans (hc 1 _ rfl)
        have c2 := (B0.cell (p := ⟨b, o + k * 9 + 2, none⟩) hbl).trans (hc 2 _ rfl)
        have c3 := (B0.cell (p := ⟨b, o + k * 9 + 3, none⟩) hbl).trans (hc 3 _ rfl)
        have c4 := (B0.cell (p := ⟨b, o + k * 9 + 4, none⟩) hbl).trans (hc 4 _ rfl)
        have c5 := (B0.cell (p := ⟨b, o + k * 9 + 5, none⟩) hbl).trans (hc 5 _ rfl)
        have c6 := (B0.cell (p := ⟨b, o + k * 9 + 6, none⟩) hbl).trans (hc 6 _ rfl)
        have c7 := (B0.cell (p := ⟨b, o + k * 9 + 7, none⟩) hbl).trans (hc 7 _ rfl)
        have c8 := (B0.cell (p := ⟨b, o + k * 9 + 8, none⟩) hbl).trans (hc 8 _ rfl)
        have c0' := (B0.cell (p := ⟨b', o' + k * 9, none⟩) hbl').trans (hc' 0 _ rfl)
        have c1' := (B0.cell (p := ⟨b', o' + k * 9 + 1, none⟩) hbl').trans (hc' 1 _ rfl)
        have c2' := (B0.cell (p := ⟨b', o' + k * 9 + 2, none⟩) hbl').trans (hc' 2 _ rfl)
        have c3' := (B0.cell (p := ⟨b', o' + k * 9 + 3, none⟩) hbl').trans (hc' 3 _ rfl)
        have c4' := (B0.cell (p := ⟨b', o' + k * 9 + 4, none⟩) hbl').trans (hc' 4 _ rfl)
        have c5' := (B0.cell (p := ⟨b', o' + k * 9 + 5, none⟩) hbl').trans (hc' 5 _ rfl)
        have c6' := (B0.cell (p := ⟨b', o' + k * 9 + 6, none⟩) hbl').trans (hc' 6 _ rfl)
        have c7' := (B0.cell (p := ⟨b', o' + k * 9 + 7, none⟩) hbl').trans (hc' 7 _ rfl)
        have c8' := (B0.cell (p := ⟨b', o' + k * 9 + 8, none⟩) hbl').trans (hc' 8 _ rfl)
        have hbw : b < wr.heap.size := Nat.lt_of_lt_of_le hbl B0.size
        have hbw' : b' < wr.heap.size := Nat.lt_of_lt_of_le hbl' B0.size
        have FN := Lib.hid hfn
        have HX := Lib.hid hx
        have HX' := Lib.hid hx'
        have HB0 := Lib.hid B0
        clear hfn hx hx' B0 hc hc'
        go_wp2_with fail
        have B2 := HB0.out.trans (((Below.refl wr.heap.size wr).alloc (Nat.le_refl _) (.cells #[.slice m0a m0.length m0c, .slice m1a m1.length m1c, .string nm, .int .i64 rs, .slice psa ps.length psc, .slice vra vr.length vrc, .slice inna inn.length innc, .slice bda bd.length bdc, .slice ena en.length enc] 80)).mono HB0.out.size)
        have B3 := B2.trans (((Below.refl _ (wr.alloc (.cells #[.slice m0a m0.length m0c, .slice m1a m1.length m1c, .string nm, .int .i64 rs, .slice psa ps.length psc, .slice vra vr.length vrc, .slice inna inn.length innc, .slice bda bd.length bdc, .slice ena en.length enc] 80))).alloc (Nat.le_refl _) (.cells #[.slice m0a' m0'.length m0c', .slice m1a' m1'.length m1c', .string nm', .int .i64 rs', .slice psa' ps'.length psc', .slice vra' vr'.length vrc', .slice inna' inn'.length innc', .slice bda' bd'.length bdc', .slice ena' en'.length enc'] 80)).mono B2.size)
        refine (FN.out _ B3).mono ?_
        rintro e w3 ⟨rfl, b3⟩
        have B4 := HB.out.trans ((((Below.refl wr.heap.size wr).alloc (Nat.le_refl _) (.cells #[.slice m0a m0.length m0c, .slice m1a m1.length m1c, .string nm, .int .i64 rs, .slice psa ps.length psc, .slice vra vr.length vrc, .slice inna inn.length innc, .slice bda bd.length bdc, .slice ena en.length enc] 80)).alloc (by simp) (.cells #[.slice m0a' m0'.length m0c', .slice m1a' m1'.length m1c', .string nm', .int .i64 rs', .slice psa' ps'.length psc', .slice vra' vr'.length vrc', .slice inna' inn'.length innc', .slice bda' bd'.length bdc', .slice ena' en'.length enc'] 80)).mono HB.out.size)
        have HB4 := Lib.hid (B4.trans (b3.mono B4.size))
        clear b3 B4 B2 B3 c0 c1 c2 c3 c4 c5 c6 c7 c8 c0' c1' c2' c3' c4' c5' c6' c7' c8'
        cases hsm : same ds ds' with
        | true =>
          have HE := Lib.hid ((same_iff _ _).1 hsm)
          clear hsm
          go_wp2_with fail
          go_roundw
          case rel => exact ⟨k + 1, by omega, by go_num, take_same_succ HX.out (HE.out ▸ HX'.out) HT.out, HB4.out⟩
          case measure => simp [intOf]; omega
        | false =>
          have HE := Lib.hid (same_miss HX.out HX'.out hsm)
          clear hsm
          go_wp2_with fail
          go_ret
          exact ⟨by rw [HE.out]; rfl, HB4.out⟩
      · obtain rfl : k = len := by omega
        go_wp2_with fail
        go_ret
        exact ⟨by rw [same_end (HL.out.trans HL'.out.symm) (by rw [HL.out]; exact HT.out)]; rfl, HB.out⟩
  · have hne : (len == len') = false := by simpa using hn
    have HN := Lib.hid (same_len (l := l) (l' := l') (by rw [HL.out, HL'.out]; exact hn))
    go_enter Tryz.func40, Tryz.ntmps40
    go_wp2_with fail
    go_ret
    exact ⟨by rw [HN.out]; rfl, Below.refl _ _⟩
end Go.Proofs.YtciijpahjjoppaaGreat
