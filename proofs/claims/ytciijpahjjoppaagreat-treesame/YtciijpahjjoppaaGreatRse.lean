/-
  The reference's comparisons: walked.
-/
import Derived.Test.YtciijpahjjoppaaGreatRsb
namespace Go.Proofs.YtciijpahjjoppaaGreat
open Go.RowKit Go.Deep Go.Sort
set_option maxRecDepth 100000 in
set_option maxHeartbeats 2000000 in
theorem refExpr_step (w0 : World) (x y : List D) (hx : ShE x) (hy : ShE y) (vs ws : List Value) (hv : AllAt w0 vs x) (hw : AllAt w0 ws y) (fkl : ∀ l l', D.row l ∈ x → D.row l' ∈ y → (∀ z ∈ l, ShE z) → (∀ z ∈ l', ShE z) → RowsEq w0 49 l l')
    (W : World) (hW : Below w0.heap.size w0 W) : Calls Tryz.prog 17 #[.agg ⟨vs⟩, .agg ⟨ws⟩] W (EqPost x y W) := by
  obtain ⟨op, n, nm, fd, kl, kla, klc, rfl, rfl, -, -, -, -, akl, skl⟩ := hv.openE hx
  obtain ⟨op', n', nm', fd', kl', kla', klc', rfl, rfl, -, -, -, -, akl', skl'⟩ := hw.openE hy
  have Pkl := Lib.hid (fkl kl kl' (by simp) (by simp) skl skl')
  have Akl := Lib.hid akl
  have Akl' := Lib.hid akl'
  clear hx hy hv hw akl akl' skl skl' fkl
  have HW := Lib.hid hW
  clear hW
  cases hop : op == op' with
  | false =>
    have GH := Lib.hid (show op ≠ op' from (by simpa using hop))
    go_enter Tryz.func17, Tryz.ntmps17
    go_wp2_with fail
    go_ret
    exact ⟨by rw [same_no (α := List D) (x := [.int op, .int n, .str nm, .str fd, .row kl]) (y := [.int op', .int n', .str nm', .str fd', .row kl']) (fun z => GH.out (D.int.inj (congrArg (fun z : List D => nth z 0) z)))]; rfl, ((Below.refl _ _).alloc (Nat.le_refl _) _).alloc (by simp) _⟩
  | true =>
    have Qop := Lib.hid (show op = op' from (by simpa using hop))
    cases hn : n == n' with
    | false =>
      have GH := Lib.hid (show n ≠ n' from (by simpa using hn))
      go_enter Tryz.func17, Tryz.ntmps17
      go_wp2_with fail
      go_ret
      exact ⟨by rw [same_no (α := List D) (x := [.int op, .int n, .str nm, .str fd, .row kl]) (y := [.int op', .int n', .str nm', .str fd', .row kl']) (fun z => GH.out (D.int.inj (congrArg (fun z : List D => nth z 1) z)))]; rfl, ((Below.refl _ _).alloc (Nat.le_refl _) _).alloc (by simp) _⟩
    | true =>
      have Qn := Lib.hid (show n = n' from (by simpa using hn))
      cases hnm : nm.toList == nm'.toList with
      | false =>
        have GH := Lib.hid (show nm ≠ nm' from (fun z => by subst z; simp at hnm))
        go_enter Tryz.func17, Tryz.ntmps17
        go_wp2_with fail
        go_ret
        exact ⟨by rw [same_no (α := List D) (x := [.int op, .int n, .str nm, .str fd, .row kl]) (y := [.int op', .int n', .str nm', .str fd', .row kl']) (fun z => GH.out (D.str.inj (congrArg (fun z : List D => nth z 2) z)))]; rfl, ((Below.refl _ _).alloc (Nat.le_refl _) _).alloc (by simp) _⟩
      | true =>
        have Qnm := Lib.hid (show nm = nm' from ((ba_eq_iff _ _).1 hnm))
        cases hfd : fd.toList == fd'.toList with
        | false =>
          have GH := Lib.hid (show fd ≠ fd' from (fun z => by subst z; simp at hfd))
          go_enter Tryz.func17, Tryz.ntmps17
          go_wp2_with fail
          go_ret
          exact ⟨by rw [same_no (α := List D) (x := [.int op, .int n, .str nm, .str fd, .row kl]) (y := [.int op', .int n', .str nm', .str fd', .row kl']) (fun z => GH.out (D.str.inj (congrArg (fun z : List D => nth z 3) z)))]; rfl, ((Below.refl _ _).alloc (Nat.le_refl _) _).alloc (by simp) _⟩
        | true =>
          have Qfd := Lib.hid (show fd = fd' from ((ba_eq_iff _ _).1 hfd))
          go_enter Tryz.func17, Tryz.ntmps17
          go_wp2_with fail
          have R0 := Lib.hid (((Below.refl W.heap.size W).alloc (Nat.le_refl _) (.cells #[.int .i64 op, .int .i64 n, .string nm, .string fd, .slice kla kl.length klc] 24)).alloc (by simp) (.cells #[.int .i64 op', .int .i64 n', .string nm', .string fd', .slice kla' kl'.length klc'] 24))
          have KA0 := Lib.hid (box_first W (.cells #[.int .i64 op, .int .i64 n, .string nm, .string fd, .slice kla kl.length klc] 24) (.cells #[.int .i64 op', .int .i64 n', .string nm', .string fd', .slice kla' kl'.length klc'] 24))
          have KB0 := Lib.hid (box_second W (.cells #[.int .i64 op, .int .i64 n, .string nm, .string fd, .slice kla kl.length klc] 24) (.cells #[.int .i64 op', .int .i64 n', .string nm', .string fd', .slice kla' kl'.length klc'] 24))
          have Z1 := HW.out.trans (R0.out.mono HW.out.size)
          refine (Pkl.out _ _ _ _ _ _ Akl.out Akl'.out _ Z1).mono ?_
          rintro e w1 ⟨rfl, b1⟩
          have R1 := Lib.hid (R0.out.trans (b1.mono R0.out.size))
          have KA1 := Lib.hid ((b1.block _ (heap_lt KA0.out)).trans KA0.out)
          have KB1 := Lib.hid ((b1.block _ (heap_lt KB0.out)).trans KB0.out)
          have cA1 := box_cells KA1.out
          have cB1 := box_cells KB1.out
          clear b1 Z1
          cases hkl : same kl kl' with
          | false =>
            have GH := Lib.hid (same_neq hkl)
            clear hkl
            go_wp2_with fail
            go_ret
            exact ⟨by rw [same_no (α := List D) (x := [.int op, .int n, .str nm, .str fd, .row kl]) (y := [.int op', .int n', .str nm', .str fd', .row kl']) (fun z => GH.out (D.row.inj (congrArg (fun z : List D => nth z 4) z)))]; rfl, R1.out⟩
          | true =>
            have Qkl := Lib.hid ((same_iff _ _).1 hkl)
            clear hkl
            have E := Lib.hid (show same (α := List D) [.int op, .int n, .str nm, .str fd, .row kl] [.int op', .int n', .str nm', .str fd', .row kl'] = true by
              obtain rfl := Qop.out
              obtain rfl := Qn.out
              obtain rfl := Qnm.out
              obtain rfl := Qfd.out
              obtain rfl := Qkl.out
              exact same_refl _)
            go_wp2_with fail
            go_ret
            exact ⟨by rw [E.out]; rfl, R1.out⟩
set_option maxRecDepth 100000 in
set_option maxHeartbeats 4000000 in
theorem refExprs_step (w0 : World) (l l' : List (List D)) (hs : ∀ x ∈ l, ShE x) (hs' : ∀ x ∈ l', ShE x) (hf : EqFn w0 17 l l') : RowsEq w0 49 l l' := by
  intro a a' len len' cap cap' hA hA' W hW
  have HF := Lib.hid hf
  have HA := Lib.hid hA
  have HA' := Lib.hid hA'
  have HS := Lib.hid hs
  have HS' := Lib.hid hs'
  have HW := Lib.hid hW
  have hle := hA.len_le
  have hle' := hA'.len_le
  have HL := Lib.hid hA.len_eq.1
  have HL' := Lib.hid hA'.len_eq.1
  clear hA hA' hs hs' hW hf
  by_cases hn : len = len'
  · subst hn
    go_enter Tryz.func49, Tryz.ntmps49
    go_wp2_with fail
    go_loopw [5] (fun i wr => ∃ k : Nat, k ≤ len ∧ i = .int .i64 k ∧ l.take k = l'.take k ∧ Below W.heap.size W wr) (fun i _ => len - (intOf i).toNat)
    case atStart => exact ⟨0, Nat.zero_le _, rfl, rfl, Below.refl _ _⟩
    case round =>
      obtain ⟨k, hk, rfl, ht, hb⟩ := hrel
      have HT := Lib.hid ht
      have HB := Lib.hid hb
      clear ht hb
      by_cases hlt : k < len
      · obtain ⟨b, o, vs, ds, rfl, hbl, hx, hv, hc⟩ := HA.out.elem hlt
        obtain ⟨b', o', vs', ds', rfl, hbl', hx', hv', hc'⟩ := HA'.out.elem hlt
        have B0 := HW.out.trans (HB.out.mono HW.out.size)
        have hbw : b < wr.heap.size := Nat.lt_of_lt_of_le hbl B0.size
        have hbw' : b' < wr.heap.size := Nat.lt_of_lt_of_le hbl' B0.size
        have HX := Lib.hid hx
        have HX' := Lib.hid hx'
        have SX := Lib.hid (HS.out _ (List.mem_of_getElem? hx))
        have SX' := Lib.hid (HS'.out _ (List.mem_of_getElem? hx'))
        have hfn := HF.out ds (List.mem_of_getElem? hx) ds' (List.mem_of_getElem? hx') vs vs' hv hv'
        obtain ⟨op, n, nm, fd, kl, kla, klc, hds, rfl, _⟩ := hv.openE SX.out
        obtain ⟨op', n', nm', fd', kl', kla', klc', hds', rfl, _⟩ := hv'.openE SX'.out
        have hdl : ds.length = 5 := by rw [hds]; rfl
        have hdl' : ds'.length = 5 := by rw [hds']; rfl
        rw [hdl] at hc
        rw [hdl'] at hc'
        clear hds hds' hdl hdl' hv hv'
        have c0 := cell_regrown ((B0.cell (p := ⟨b, o + k * 5, none⟩) hbl).trans (hc 0 _ rfl))
        have c1 := cell_regrown ((B0.cell (p := ⟨b, o + k * 5 + 1, none⟩) hbl).trans (hc 1 _ rfl))
        have c2 := cell_regrown ((B0.cell (p := ⟨b, o + k * 5 + 2, none⟩) hbl).trans (hc 2 _ rfl))
        have c3 := cell_regrown ((B0.cell (p := ⟨b, o + k * 5 + 3, none⟩) hbl).trans (hc 3 _ rfl))
        have c4 := cell_regrown ((B0.cell (p := ⟨b, o + k * 5 + 4, none⟩) hbl).trans (hc 4 _ rfl))
        have c0' := cell_regrown ((B0.cell (p := ⟨b', o' + k * 5, none⟩) hbl').trans (hc' 0 _ rfl))
        have c1' := cell_regrown ((B0.cell (p := ⟨b', o' + k * 5 + 1, none⟩) hbl').trans (hc' 1 _ rfl))
        have c2' := cell_regrown ((B0.cell (p := ⟨b', o' + k * 5 + 2, none⟩) hbl').trans (hc' 2 _ rfl))
        have c3' := cell_regrown ((B0.cell (p := ⟨b', o' + k * 5 + 3, none⟩) hbl').trans (hc' 3 _ rfl))
        have c4' := cell_regrown ((B0.cell (p := ⟨b', o' + k * 5 + 4, none⟩) hbl').trans (hc' 4 _ rfl))
        cases hsm : same ds ds' with
        | true =>
          have cF : ∀ d os, Calls Tryz.prog 17 #[.agg #[.int .i64 op, .int .i64 n, .string nm, .string fd, .slice kla kl.length klc], .agg #[.int .i64 op', .int .i64 n', .string nm', .string fd', .slice kla' kl'.length klc']] (grow (redrawn wr d) os) fun e w'' => e = .returned (.bool true) ∧ ∃ p : Regrown, w'' = grow (redrawn wr p.d) p.os := fun d os => by
            have := hfn _ (B0.trans ((below_regrown wr d os).mono B0.size))
            unfold EqPost at this
            rw [hsm] at this
            exact Calls.regrown_of this
          have CF := Lib.hid cF
          have HSM := Lib.hid hsm
          clear cF hfn hx hx' hc hc' B0 hsm
          go_wp2_with fail
          refine wp_region_quiet_below (by kernel_rfl) (by kernel_rfl) ?_
          repeat (first | go_big_quiet_step ((with_reducible exact CF.out _ _)) | quiet_step ((with_reducible exact CF.out _ _)))
          refine wpQuiet_nil ?_
          intro _ hw'
          obtain ⟨⟨dq, osq⟩, hw''⟩ := hw'
          subst hw''
          have HB4 := Lib.hid (HB.out.trans ((below_regrown wr dq osq).mono HB.out.size))
          go_wp2_with fail
          go_roundw
          case rel => exact ⟨k + 1, by omega, by go_num, take_same_succ HX.out ((same_iff _ _).1 HSM.out ▸ HX'.out) HT.out, HB4.out⟩
          case measure => simp [intOf]; omega
        | false =>
          have cF : ∀ d os, Calls Tryz.prog 17 #[.agg #[.int .i64 op, .int .i64 n, .string nm, .string fd, .slice kla kl.length klc], .agg #[.int .i64 op', .int .i64 n', .string nm', .string fd', .slice kla' kl'.length klc']] (grow (redrawn wr d) os) fun e w'' => e = .returned (.bool false) ∧ ∃ p : Regrown, w'' = grow (redrawn wr p.d) p.os := fun d os => by
            have := hfn _ (B0.trans ((below_regrown wr d os).mono B0.size))
            unfold EqPost at this
            rw [hsm] at this
            exact Calls.regrown_of this
          have CF := Lib.hid cF
          have HSM := Lib.hid hsm
          clear cF hfn hx hx' hc hc' B0 hsm
          go_wp2_with fail
          refine wp_region_quiet_below (by kernel_rfl) (by kernel_rfl) ?_
          repeat (first | go_big_quiet_step ((with_reducible exact CF.out _ _)) | quiet_step ((with_reducible exact CF.out _ _)))
          refine wpQuiet_nil ?_
          intro _ hw'
          obtain ⟨⟨dq, osq⟩, hw''⟩ := hw'
          subst hw''
          have HB4 := Lib.hid (HB.out.trans ((below_regrown wr dq osq).mono HB.out.size))
          go_wp2_with fail
          go_ret
          exact ⟨by rw [same_miss HX.out HX'.out HSM.out]; rfl, HB4.out⟩
      · obtain rfl : k = len := by omega
        go_wp2_with fail
        go_ret
        exact ⟨by rw [same_end (HL.out.trans HL'.out.symm) (by rw [HL.out]; exact HT.out)]; rfl, HB.out⟩
  · have hne : (len == len') = false := by simpa using hn
    have HN := Lib.hid (same_len (l := l) (l' := l') (by rw [HL.out, HL'.out]; exact hn))
    go_enter Tryz.func49, Tryz.ntmps49
    go_wp2_with fail
    go_ret
    exact ⟨by rw [HN.out]; rfl, Below.refl _ _⟩
theorem refExprs_upto (w0 : World) (n : Nat) : ∀ l l' : List (List D), SizeOf.sizeOf l ≤ n → (∀ z ∈ l, ShE z) → (∀ z ∈ l', ShE z) → RowsEq w0 49 l l' := by
  induction n with
  | zero => intro l l' h; cases l <;> simp at h <;> omega
  | succ n ih =>
    intro l l' hn hs hs'
    refine refExprs_step w0 l l' hs hs' fun x hx y hy vs ws hv hw W hW => ?_
    refine refExpr_step w0 x y (hs x hx) (hs' y hy) vs ws hv hw (fun m m' hm _ hsm hsm' => ih m m' ?_ hsm hsm') W hW
    have h1 := List.sizeOf_lt_of_mem hx
    have h2 := List.sizeOf_lt_of_mem hm
    have h3 : SizeOf.sizeOf (D.row m) = 1 + SizeOf.sizeOf m := by simp
    omega
theorem refExprs_any (w0 : World) (l l' : List (List D)) (hs : ∀ z ∈ l, ShE z) (hs' : ∀ z ∈ l', ShE z) : RowsEq w0 49 l l' := refExprs_upto w0 _ l l' (Nat.le_refl _) hs hs'
theorem refExpr_any (w0 : World) (x y : List D) (hx : ShE x) (hy : ShE y) (vs ws : List Value) (hv : AllAt w0 vs x) (hw : AllAt w0 ws y) (W : World) (hW : Below w0.heap.size w0 W) : Calls Tryz.prog 17 #[.agg ⟨vs⟩, .agg ⟨ws⟩] W (EqPost x y W) :=
  refExpr_step w0 x y hx hy vs ws hv hw (fun m m' _ _ hsm hsm' => refExprs_any w0 m m' hsm hsm') W hW
end Go.Proofs.YtciijpahjjoppaaGreat
