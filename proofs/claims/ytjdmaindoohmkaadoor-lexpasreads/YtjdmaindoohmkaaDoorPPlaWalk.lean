/-
  LexPasPlaces, walked.
-/
import Derived.Test.YtjdmaindoohmkaaDoorPAwk
import Derived.Test.YtjdmaindoohmkaaDoorPPlc
import Derived.Test.YtjdmaindoohmkaaDoorAt
namespace Go.Proofs.YtjdmaindoohmkaaDoor.P
open Go.RowKit Go.Sort

/-- A slice of tokens, however it came to be. -/
theorem OwnT.any {base : Nat} {w : World} {v : Value} {ts : List Tk} (h : OwnT base w v ts) : ∃ a cap, v = .slice a ts.length cap ∧ ts.length ≤ cap ∧ cap ≤ maxLen ∧ (ts ≠ [] → ∃ g, a = some ⟨g, 0, none⟩ ∧ base ≤ g ∧ g < w.heap.size ∧ ∀ i t, ts[i]? = some t → ∀ j u, (tkCells t)[j]? = some u → w.cell? ⟨g, i * 7 + j, none⟩ = some u) := by
  rcases h.slice with ⟨rfl, rfl⟩ | ⟨g, cap, rfl, h1, h2, h3, h4, h5⟩
  · exact ⟨none, 0, rfl, Nat.le_refl _, by decide, fun h => absurd rfl h⟩
  · exact ⟨_, cap, rfl, h3, h4, fun _ => ⟨g, rfl, h1, h2, h5⟩⟩
theorem below_drewN {B : Nat} {a w : World} (h : Below B a w) (n : Nat) : Below B a (w.drewN n) := ⟨h.os, h.tape, h.output, h.size, h.block⟩
theorem skip_pos (s : ByteArray) (k : Nat) (h : k ≤ s.size) : skipN (k : Int) 0 s = k := by unfold skipN; omega
theorem refAt2 (s : ByteArray) (k : Nat) (w : World) (hs : s.size ≤ maxLen) (h : k ≤ s.size) :
    Calls Tryd.prog 18 #[.string s, .int .i64 (k : Int)] w fun e w' => e = .returned (.agg #[.int .i64 (k : Nat), .int .i64 (lineOf s k : Nat), .int .i64 (colOf s k : Nat)]) ∧ Below w.heap.size w w' := by
  have := refAt_any s (k : Int) w hs
  rw [skip_pos s k h] at this
  exact this
set_option maxRecDepth 100000 in
set_option maxHeartbeats 2000000 in
theorem places_long (s : ByteArray) (w : World) (hl : 3000 < s.size) : Calls Tryd.prog 6 #[.string s] w fun e w' => e = .returned (.bool true) ∧ Below w.heap.size w w' := by
  have d : decide ((3000 : Int) < (s.size : Int)) = true := by simp; omega
  go_enter Tryd.func6, Tryd.ntmps6
  go_wp2_with fail
  refine (awake_any _).mono ?_
  rintro e w1 ⟨rfl, b1⟩
  have B1 := Lib.hid b1
  clear b1
  go_wp2_with fail
  go_ret
  exact ⟨rfl, B1.out⟩
set_option maxRecDepth 100000 in
set_option maxHeartbeats 4000000 in
theorem places_any (s : ByteArray) (w : World) (hl : s.size ≤ 3000) : Calls Tryd.prog 6 #[.string s] w fun e w' => e = .returned (.bool true) ∧ Below w.heap.size w w' := by
  have d : decide ((3000 : Int) < (s.size : Int)) = false := by simp; omega
  have hsm : s.size ≤ maxLen := by unfold maxLen; omega
  have LP := Lib.hid (lex_places s)
  have hle := lex_len s
  generalize hR : lexAll s = R at LP hle
  have HR := Lib.hid hR
  clear hR
  go_enter Tryd.func6, Tryd.ntmps6
  go_wp2_with fail
  refine (lex_any s _).mono ?_
  unfold LexPost diagV
  rw [HR.out]
  rintro e w1 ⟨v, rfl, o1, b1⟩
  obtain ⟨a, cap, rfl, hcap, hcm, hcells⟩ := o1.any
  have B1 := Lib.hid b1
  have HC := Lib.hid hcells
  have O1 := Lib.hid o1
  clear hcells b1 o1
  unfold maxLen at hcm
  by_cases hcode : R.code = 0
  · obtain ⟨hpl, l, te, htl, hk0, hps⟩ := LP.out.2 hcode
    have d1 : ((R.code : Int) != 0) = false := by rw [hcode]; rfl
    have PL := Lib.hid hpl
    obtain ⟨g, rfl, hg1, hg2, hcl⟩ := HC.out (by rw [htl]; simp)
    clear LP hpl HC
    have hb2 := heap_new w1 (.cells #[.int .i64 (R.code : Nat), .int .i64 (R.pos : Nat), .int .i64 (lineOf s R.pos : Nat), .int .i64 (colOf s R.pos : Nat)] 28)
    have B2 := Lib.hid (B1.out.alloc B1.out.size (.cells #[.int .i64 (R.code : Nat), .int .i64 (R.pos : Nat), .int .i64 (lineOf s R.pos : Nat), .int .i64 (colOf s R.pos : Nat)] 28))
    have HCL := Lib.hid (fun i t h j u hj => (((Below.refl _ w1).alloc (Nat.le_refl _) (.cells #[.int .i64 (R.code : Nat), .int .i64 (R.pos : Nat), .int .i64 (lineOf s R.pos : Nat), .int .i64 (colOf s R.pos : Nat)] 28)).cell (p := ⟨g, i * 7 + j, none⟩) hg2).trans (hcl i t h j u hj))
    clear hcl
    have HG3 := Lib.hid (show g < (w1.alloc (.cells #[.int .i64 (R.code : Nat), .int .i64 (R.pos : Nat), .int .i64 (lineOf s R.pos : Nat), .int .i64 (colOf s R.pos : Nat)] 28)).heap.size by simp; omega)
    have htl2 : R.toks.length = l.length + 1 := by rw [htl]; simp
    have hR1 : 1 ≤ R.toks.length := by omega
    have hlast : R.toks[R.toks.length - 1]? = some te := by rw [htl]; simp
    have HLA := Lib.hid hlast
    clear hlast htl
    have HPS := Lib.hid hps
    have HK0 := Lib.hid hk0
    clear hps hk0
    generalize hn : R.toks.length = n at *
    have HN := Lib.hid hn
    clear hn htl2
    have HCO := Lib.hid hcode
    clear hcode
    go_wp2_with fail
    generalize w1.alloc (.cells #[.int .i64 (R.code : Nat), .int .i64 (R.pos : Nat), .int .i64 (lineOf s R.pos : Nat), .int .i64 (colOf s R.pos : Nat)] 28) = w2 at hb2 B2 HCL HG3 ⊢
    clear hb2 O1 B1
    have hg3 : g < w2.heap.size := HG3.out
    go_loopw [5] (fun i wr => ∃ k : Nat, k ≤ n ∧ i = .int .i64 k ∧ Below w2.heap.size w2 wr) (fun i _ => n - (intOf i).toNat)
    case atStart => exact ⟨0, Nat.zero_le _, rfl, Below.refl _ _⟩
    case round =>
      obtain ⟨k, hk, rfl, hb⟩ := hrel
      have BR := Lib.hid hb
      clear hb
      by_cases hlt : k < n
      · obtain ⟨t, ht⟩ : ∃ t, R.toks[k]? = some t := ⟨R.toks[k]'(by rw [HN.out]; exact hlt), List.getElem?_eq_getElem _⟩
        obtain ⟨⟨p1, p2, p3⟩, p4, p5⟩ := PL.out k t ht
        have q0 : wr.cell? ⟨g, k * 7 + 0, none⟩ = some (.int .i64 (t.kind : Nat)) := (BR.out.cell (p := ⟨g, k * 7 + 0, none⟩) hg3).trans (HCL.out k t ht 0 _ rfl)
        have q3 : wr.cell? ⟨g, k * 7 + 3, none⟩ = some (.bool t.same) := (BR.out.cell (p := ⟨g, k * 7 + 3, none⟩) hg3).trans (HCL.out k t ht 3 _ rfl)
        have q4 : wr.cell? ⟨g, k * 7 + 4, none⟩ = some (.int .i64 (t.pos : Nat)) := (BR.out.cell (p := ⟨g, k * 7 + 4, none⟩) hg3).trans (HCL.out k t ht 4 _ rfl)
        have q5 : wr.cell? ⟨g, k * 7 + 5, none⟩ = some (.int .i64 (t.line : Nat)) := (BR.out.cell (p := ⟨g, k * 7 + 5, none⟩) hg3).trans (HCL.out k t ht 5 _ rfl)
        have q6 : wr.cell? ⟨g, k * 7 + 6, none⟩ = some (.int .i64 (t.col : Nat)) := (BR.out.cell (p := ⟨g, k * 7 + 6, none⟩) hg3).trans (HCL.out k t ht 6 _ rfl)
        rw [Nat.add_zero] at q0
        rw [p1] at q5
        rw [p2] at q6
        have cR : ∀ d os, Calls Tryd.prog 18 #[.string s, .int .i64 (t.pos : Int)] (grow (redrawn wr d) os) fun e w'' => e = .returned (.agg #[.int .i64 (t.pos : Nat), .int .i64 (lineOf s t.pos : Nat), .int .i64 (colOf s t.pos : Nat)]) ∧ ∃ p : Regrown, w'' = grow (redrawn wr p.d) p.os := fun d os => Calls.regrown_of (refAt2 s t.pos _ hsm p3)
        have CR := Lib.hid cR
        have k0 := cell_regrown q0
        have k3 := cell_regrown q3
        have k4 := cell_regrown q4
        have k5 := cell_regrown q5
        have k6 := cell_regrown q6
        clear cR
        have Q3 := Lib.hid q3
        have Q5 := Lib.hid q5
        have hgr : g < wr.heap.size := Nat.lt_of_lt_of_le hg3 BR.out.size
        by_cases hk0 : k = 0
        · subst hk0
          have hsame := p4 rfl
          rw [hsame] at Q3
          have d1 : decide ((0 : Int) < ((0 : Nat) : Int)) = false := by simp
          clear p1 p2 p4 p5 q0 q3 q4 q5 q6 ht hsame
          rw [Nat.zero_mul, Nat.zero_add] at *
          go_wp2_with fail
          refine wp_region_quiet_below (by kernel_rfl) (by kernel_rfl) ?_
          repeat (first | go_big_quiet_step ((with_reducible exact CR.out _ _)) | quiet_step ((with_reducible exact CR.out _ _)))
          refine wpQuiet_nil ?_
          intro w3 hw'
          obtain ⟨⟨dq, osq⟩, hw''⟩ := hw'
          have b3 : Below wr.heap.size wr w3 := by rw [hw'']; exact below_regrown wr dq osq
          have B3 := Lib.hid (BR.out.trans (b3.mono BR.out.size))
          clear hw'' CR
          have m3 := (b3.cell (p := ⟨g, 3, none⟩) hgr).trans Q3.out
          clear k0 k3 k4 k5 k6 b3
          go_wp2_with fail
          go_quiet (fail)
          go_wp2_with fail
          go_roundw
          case rel => exact ⟨1, by omega, rfl, below_drewN B3.out _⟩
          case measure => simp [intOf]; omega
        · obtain ⟨u, hu⟩ : ∃ u, R.toks[k - 1]? = some u := ⟨R.toks[k - 1]'(by rw [HN.out]; omega), List.getElem?_eq_getElem _⟩
          obtain ⟨p6, p7⟩ := p5 u (by omega) hu
          have r4 : wr.cell? ⟨g, (k - 1) * 7 + 4, none⟩ = some (.int .i64 (u.pos : Nat)) := (BR.out.cell (p := ⟨g, (k - 1) * 7 + 4, none⟩) hg3).trans (HCL.out (k - 1) u hu 4 _ rfl)
          have r5 : wr.cell? ⟨g, (k - 1) * 7 + 5, none⟩ = some (.int .i64 (u.line : Nat)) := (BR.out.cell (p := ⟨g, (k - 1) * 7 + 5, none⟩) hg3).trans (HCL.out (k - 1) u hu 5 _ rfl)
          have j4 := cell_regrown r4
          have RR5 := Lib.hid r5
          have d1 : decide ((0 : Int) < (k : Int)) = true := by simp; omega
          have d1' : decide (0 < k) = true := by simp; omega
          have d2 : decide ((t.pos : Int) ≤ (u.pos : Int)) = false := by simp; omega
          have d2' : decide (t.pos ≤ u.pos) = false := by simp; omega
          have e1 : IntKind.i64.wrap ((k : Int) - 1) = (k : Int) - 1 := IntWalk.i64_in _ (by omega)
          have e2 : ((k : Int) - 1).toNat = k - 1 := by omega
          have e3 : (0 : Int) ≤ (k : Int) - 1 := by omega
          have e4 : (k : Int) - 1 < (n : Int) := by omega
          rw [p1] at p7
          have d3 : decide ((lineOf s t.pos : Int) < (u.line : Int)) = false := by simp; omega
          have d3' : decide (lineOf s t.pos < u.line) = false := by simp; omega
          have d4 : ((k : Int) == 0) = false := by simp; omega
          have hk2 : k + 1 ≤ n := by omega
          have hme : n - (k + 1) < n - k := by omega
          clear p1 p2 p4 p5 p6 p7 q0 q3 q4 q5 q6 r4 r5 ht hu
          cases hsm2 : t.same with
          | false =>
            rw [hsm2] at Q3 k3
            clear hsm2
            go_wp2_with fail
            refine wp_region_quiet_below (by kernel_rfl) (by kernel_rfl) ?_
            repeat (first | go_big_quiet_step ((with_reducible exact CR.out _ _)) | quiet_step ((with_reducible exact CR.out _ _)))
            refine wpQuiet_nil ?_
            intro w3 hw'
            obtain ⟨⟨dq, osq⟩, hw''⟩ := hw'
            have b3 : Below wr.heap.size wr w3 := by rw [hw'']; exact below_regrown wr dq osq
            have B3 := Lib.hid (BR.out.trans (b3.mono BR.out.size))
            clear hw'' CR
            have m3 := (b3.cell (p := ⟨g, k * 7 + 3, none⟩) hgr).trans Q3.out
            clear k0 k3 k4 k5 k6 b3 j4
            go_wp2_with fail
            go_quiet (fail)
            clear e1 e2 e3 e4
            go_wp2_with fail
            go_roundw
            case rel => exact ⟨k + 1, hk2, by go_num, below_drewN B3.out _⟩
            case measure => simp [intOf]; omega
          | true =>
            rw [hsm2] at Q3 k3
            clear hsm2
            go_wp2_with fail
            refine wp_region_quiet_below (by kernel_rfl) (by kernel_rfl) ?_
            repeat (first | go_big_quiet_step ((with_reducible exact CR.out _ _)) | quiet_step ((with_reducible exact CR.out _ _)))
            refine wpQuiet_nil ?_
            intro w3 hw'
            obtain ⟨⟨dq, osq⟩, hw''⟩ := hw'
            have b3 : Below wr.heap.size wr w3 := by rw [hw'']; exact below_regrown wr dq osq
            have B3 := Lib.hid (BR.out.trans (b3.mono BR.out.size))
            clear hw'' CR
            have m3 := (b3.cell (p := ⟨g, k * 7 + 3, none⟩) hgr).trans Q3.out
            have m5 := (b3.cell (p := ⟨g, k * 7 + 5, none⟩) hgr).trans Q5.out
            have n5 := (b3.cell (p := ⟨g, (k - 1) * 7 + 5, none⟩) hgr).trans RR5.out
            clear k0 k3 k4 k5 k6 b3 j4
            go_wp2_with fail
            go_quiet (fail)
            clear e1 e2 e3 e4
            go_wp2_with fail
            go_roundw
            case rel => exact ⟨k + 1, hk2, by go_num, below_drewN B3.out _⟩
            case measure => simp [intOf]; omega
      · obtain rfl : k = n := by omega
        have hte := HLA.out
        have y0 : wr.cell? ⟨g, (k - 1) * 7 + 0, none⟩ = some (.int .i64 (te.kind : Nat)) := (BR.out.cell (p := ⟨g, (k - 1) * 7 + 0, none⟩) hg3).trans (HCL.out (k - 1) te hte 0 _ rfl)
        have y4 : wr.cell? ⟨g, (k - 1) * 7 + 4, none⟩ = some (.int .i64 (te.pos : Nat)) := (BR.out.cell (p := ⟨g, (k - 1) * 7 + 4, none⟩) hg3).trans (HCL.out (k - 1) te hte 4 _ rfl)
        rw [Nat.add_zero, HK0.out] at y0
        rw [HPS.out] at y4
        have d1 : decide ((0 : Int) < (k : Int)) = true := by simp; omega
        have d1' : decide (0 < k) = true := by simp; omega
        have e2 : ((k : Int) - 1).toNat = k - 1 := by omega
        have e3 : (0 : Int) ≤ (k : Int) - 1 := by omega
        have e4 : (k : Int) - 1 < (k : Int) := by omega
        have e5 : (1 : Int) ≤ (k : Int) := by omega
        clear hte
        go_wp2_with fail
        refine (awake_any _).mono ?_
        rintro e w5 ⟨rfl, b5⟩
        have B5 := Lib.hid (B2.out.trans ((BR.out.trans (b5.mono BR.out.size)).mono B2.out.size))
        clear b5
        go_wp2_with fail
        go_ret
        exact ⟨rfl, B5.out⟩
  · obtain ⟨ht0, hp0⟩ := LP.out.1 hcode
    rw [ht0] at O1 hcap ⊢
    have d1 : ((R.code : Int) != 0) = true := by simp; omega
    have B2 := Lib.hid (B1.out.alloc B1.out.size (.cells #[.int .i64 (R.code : Nat), .int .i64 (R.pos : Nat), .int .i64 (lineOf s R.pos : Nat), .int .i64 (colOf s R.pos : Nat)] 28))
    have hb2 := heap_new w1 (.cells #[.int .i64 (R.code : Nat), .int .i64 (R.pos : Nat), .int .i64 (lineOf s R.pos : Nat), .int .i64 (colOf s R.pos : Nat)] 28)
    clear HC LP ht0 hle
    go_wp2_with fail
    generalize w1.alloc (.cells #[.int .i64 (R.code : Nat), .int .i64 (R.pos : Nat), .int .i64 (lineOf s R.pos : Nat), .int .i64 (colOf s R.pos : Nat)] 28) = w2 at hb2 B2 ⊢
    have q1 : w2.cell? ⟨w1.heap.size, 1, none⟩ = some (.int .i64 (R.pos : Nat)) := by simp [World.cell?, hb2]
    have q2 : w2.cell? ⟨w1.heap.size, 2, none⟩ = some (.int .i64 (lineOf s R.pos : Nat)) := by simp [World.cell?, hb2]
    have q3 : w2.cell? ⟨w1.heap.size, 3, none⟩ = some (.int .i64 (colOf s R.pos : Nat)) := by simp [World.cell?, hb2]
    have k1 := cell_regrown q1
    have k2 := cell_regrown q2
    have k3 := cell_regrown q3
    have cR : ∀ d os, Calls Tryd.prog 18 #[.string s, .int .i64 (R.pos : Int)] (grow (redrawn w2 d) os) fun e w'' => e = .returned (.agg #[.int .i64 (R.pos : Nat), .int .i64 (lineOf s R.pos : Nat), .int .i64 (colOf s R.pos : Nat)]) ∧ ∃ p : Regrown, w'' = grow (redrawn w2 p.d) p.os := fun d os => Calls.regrown_of (refAt2 s R.pos _ hsm hp0)
    have cA : ∀ d os, Calls Tryd.prog 12 #[] (grow (redrawn w2 d) os) fun e w'' => e = .returned (.bool true) ∧ ∃ p : Regrown, w'' = grow (redrawn w2 p.d) p.os := fun d os => Calls.regrown_of (awake_any _)
    have CR := Lib.hid cR
    have CA := Lib.hid cA
    clear cR cA q1 q2 q3 hb2
    refine wp_region_quiet_below (by kernel_rfl) (by kernel_rfl) ?_
    repeat (first | go_big_quiet_step ((first | with_reducible exact CR.out _ _ | with_reducible exact CA.out _ _)) | quiet_step ((first | with_reducible exact CR.out _ _ | with_reducible exact CA.out _ _)))
    refine wpQuiet_nil ?_
    intro _ hw'
    obtain ⟨⟨dq, osq⟩, hw''⟩ := hw'
    subst hw''
    go_wp2_with fail
    go_ret
    exact ⟨rfl, B2.out.trans ((below_regrown w2 dq osq).mono B2.out.size)⟩
theorem lexPasPlaces_walk (s : ByteArray) (w : World) : Calls Tryd.prog 6 #[.string s] w fun e w' => e = .returned (.bool true) ∧ Below w.heap.size w w' := by
  by_cases h : s.size ≤ 3000
  · exact places_any s w h
  · exact places_long s w (by omega)
end Go.Proofs.YtjdmaindoohmkaaDoor.P
