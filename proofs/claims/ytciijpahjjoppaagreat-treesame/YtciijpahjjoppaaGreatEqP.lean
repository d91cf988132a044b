/-
  Rows of parameters compared (slices.Equal): walked.
-/
import Derived.Test.YtciijpahjjoppaaGreatEqT
namespace Go.Proofs.YtciijpahjjoppaaGreat
open Go.RowKit Go.Deep
set_option maxRecDepth 100000 in
set_option maxHeartbeats 1000000 in
theorem equalP_any (w0 : World) (a a' : Option Addr) (len len' cap cap' : Nat) (l l' : List (List D)) (hA : At w0 (.slice a len cap) (.row l)) (hA' : At w0 (.slice a' len' cap') (.row l')) (hs : ∀ x ∈ l, ShP x) (hs' : ∀ x ∈ l', ShP x)
    (W : World) (hW : Below w0.heap.size w0 W) : Calls Tryz.prog 85 #[.slice a len cap, .slice a' len' cap'] W (EqPost l l' W) := by
  have HA := Lib.hid hA
  have HA' := Lib.hid hA'
  have HS := Lib.hid hs
  have HS' := Lib.hid hs'
  have HW := Lib.hid hW
  have hle := hA.len_le
  have hle' := hA'.len_le
  have HL := Lib.hid hA.len_eq.1
  have HL' := Lib.hid hA'.len_eq.1
  clear hA hA' hs hs' hW
  by_cases hn : len = len'
  · subst hn
    go_enter Tryz.func85, Tryz.ntmps85
    go_wp2_with fail
    go_loopw [13] (fun i wr => ∃ k : Nat, k ≤ len ∧ i = .int .i64 k ∧ l.take k = l'.take k ∧ Below W.heap.size W wr) (fun i _ => len - (intOf i).toNat)
    case atStart => exact ⟨0, Nat.zero_le _, rfl, rfl, Below.refl _ _⟩
    case round =>
      obtain ⟨k, hk, rfl, ht, hb⟩ := hrel
      have HT := Lib.hid ht
      have HB := Lib.hid hb
      clear ht hb
      by_cases hlt : k < len
      · obtain ⟨b, o, vs, ds, rfl, hbl, hx, hv, hc⟩ := HA.out.elem hlt
        obtain ⟨b', o', vs', ds', rfl, hbl', hx', hv', hc'⟩ := HA'.out.elem hlt
        obtain ⟨nm, kd, sz, tn, md, rfl, rfl, _⟩ := hv.openP (HS.out _ (List.mem_of_getElem? hx))
        obtain ⟨nm', kd', sz', tn', md', rfl, rfl, _⟩ := hv'.openP (HS'.out _ (List.mem_of_getElem? hx'))
        have B0 := HW.out.trans (HB.out.mono HW.out.size)
        have hc : ∀ (i : Nat) (v : Value), [Value.string nm, .int .i64 kd, .int .i64 sz, .string tn, .int .i64 md][i]? = some v → w0.cell? ⟨b, o + k * 5 + i, none⟩ = some v := hc
        have hc' : ∀ (i : Nat) (v : Value), [Value.string nm', .int .i64 kd', .int .i64 sz', .string tn', .int .i64 md'][i]? = some v → w0.cell? ⟨b', o' + k * 5 + i, none⟩ = some v := hc'
        have c0 := (B0.cell (p := ⟨b, o + k * 5, none⟩) hbl).trans (hc 0 _ rfl)
        have c1 := (B0.cell (p := ⟨b, o + k * 5 + 1, none⟩) hbl).trans (hc 1 _ rfl)
        have c2 := (B0.cell (p := ⟨b, o + k * 5 + 2, none⟩) hbl).trans (hc 2 _ rfl)
        have c3 := (B0.cell (p := ⟨b, o + k * 5 + 3, none⟩) hbl).trans (hc 3 _ rfl)
        have c4 := (B0.cell (p := ⟨b, o + k * 5 + 4, none⟩) hbl).trans (hc 4 _ rfl)
        have c0' := (B0.cell (p := ⟨b', o' + k * 5, none⟩) hbl').trans (hc' 0 _ rfl)
        have c1' := (B0.cell (p := ⟨b', o' + k * 5 + 1, none⟩) hbl').trans (hc' 1 _ rfl)
        have c2' := (B0.cell (p := ⟨b', o' + k * 5 + 2, none⟩) hbl').trans (hc' 2 _ rfl)
        have c3' := (B0.cell (p := ⟨b', o' + k * 5 + 3, none⟩) hbl').trans (hc' 3 _ rfl)
        have c4' := (B0.cell (p := ⟨b', o' + k * 5 + 4, none⟩) hbl').trans (hc' 4 _ rfl)
        have hgd : Tryz.prog.eqGuardType Tryz.prog.depth 133 = false := by kernel_rfl
        have HX := Lib.hid hx
        have HX' := Lib.hid hx'
        clear hx hx' B0 hc hc' hv hv'
        cases hsm : pmSame nm nm' kd kd' sz sz' tn tn' md md' with
        | true =>
          have HE := Lib.hid (show ([.str nm, .int kd, .int sz, .str tn, .int md] : List D) = [.str nm', .int kd', .int sz', .str tn', .int md'] by obtain ⟨rfl, ⟨rfl, rfl, rfl⟩, rfl⟩ := pmSame_iff.1 hsm; rfl)
          have TYF := fun w => (pm_neq nm nm' kd kd' sz sz' tn tn' md md' w).trans (by rw [hsm, Bool.not_true])
          clear hsm
          go_wp2_with fail
          go_quiet (fail)
          go_wp2_with fail
          go_roundw
          case rel => exact ⟨k + 1, by omega, by go_num, take_same_succ HX.out (HE.out ▸ HX'.out) HT.out, below_drewN HB.out _⟩
          case measure => simp [intOf]; omega
        | false =>
          have HE := Lib.hid (same_miss HX.out HX'.out (same_no fun e => by
            have : pmSame nm nm' kd kd' sz sz' tn tn' md md' = true := pmSame_iff.2 (by simp at e; exact ⟨e.1, ⟨e.2.1, e.2.2.1, e.2.2.2.1⟩, e.2.2.2.2⟩)
            rw [hsm] at this
            cases this))
          have TYF := fun w => (pm_neq nm nm' kd kd' sz sz' tn tn' md md' w).trans (by rw [hsm, Bool.not_false])
          clear hsm
          go_wp2_with fail
          go_quiet (fail)
          go_wp2_with fail
          go_ret
          exact ⟨by rw [HE.out]; rfl, below_drewN HB.out _⟩
      · obtain rfl : k = len := by omega
        go_wp2_with fail
        go_ret
        exact ⟨by rw [same_end (HL.out.trans HL'.out.symm) (by rw [HL.out]; exact HT.out)]; rfl, HB.out⟩
  · have hne : (len == len') = false := by simpa using hn
    have HN := Lib.hid (same_len (l := l) (l' := l') (by rw [HL.out, HL'.out]; exact hn))
    go_enter Tryz.func85, Tryz.ntmps85
    go_wp2_with fail
    go_ret
    exact ⟨by rw [HN.out]; rfl, Below.refl _ _⟩
end Go.Proofs.YtciijpahjjoppaaGreat
