/-
  Texts of this proof, put together.
-/
import Derived.Test.YtciijpahjjoppaaGreatPc8
section
namespace Go.Proofs.YtciijpahjjoppaaGreat
open Go.RowKit Go.Deep Go.Maps Go.Sort
set_option linter.unusedVariables false

set_option maxRecDepth 100000 in
set_option maxHeartbeats 32000000 in
theorem stmt_a0 (w0 : World) (d : Int) (ar : Nat) (har : ar < 48) (m0 m1 : List (List D)) (op : Int) (nm : ByteArray) (pop pn : Int) (pnm pfd : ByteArray) (pl ex : List (List D)) (dn mo : Bool) (bd el en e2 : List (List D)) (m0a : Option Addr) (m0c : Nat) (m1a : Option Addr) (m1c : Nat) (pla : Option Addr) (plc : Nat) (exa : Option Addr) (exc : Nat) (bda : Option Addr) (bdc : Nat) (ela : Option Addr) (elc : Nat) (ena : Option Addr) (enc : Nat) (e2a : Option Addr) (e2c : Nat) (fp fc fb fo b1 b10 b2 b4 b5 b6 b8 c7 : Bool) (fl fm v : Int)
    (h_sf : ∀ W, Calls Tryz.prog 112 #[.int .i64 op] W fun e W' => e = .returned (.tuple #[.agg #[.bool fp, .int .i64 fl, .int .i64 fm, .bool fc, .bool fb, .bool fo, .bool true], .bool true]) ∧ Below W.heap.size W W')
    (h_mk : Says w0 105 #[.agg #[.int .i64 d, .int .i64 ar], .agg #[.slice m0a m0.length m0c, .slice m1a m1.length m1c]] (.bool b1))
    (h_nw : Says w0 63 #[.agg #[.int .i64 d, .int .i64 ar], .bool true, .string nm] (.bool b2))
    (h_pl : Says w0 113 #[.agg #[.int .i64 d, .int .i64 ar], .bool fp, .agg #[.int .i64 pop, .int .i64 pn, .string pnm, .string pfd, .slice pla pl.length plc]] (.bool b4))
    (h_wt : Says w0 100 #[.int .i64 ex.length, .int .i64 fl, .int .i64 fm] (.bool b5))
    (h_om : Says w0 114 #[.agg #[.int .i64 d, .int .i64 ar]] (.agg #[.int .i64 d, .int .i64 0]))
    (h_ex : Says w0 64 #[.slice exa ex.length exc, .func (.func 25) #[.agg #[.int .i64 d, .int .i64 0]] #[]] (.bool b6))
    (h_ba : Says w0 115 #[.agg #[.int .i64 d, .int .i64 ar], .bool fb, .slice bda bd.length bdc, .slice ena en.length enc] (.bool b8))
    (h_bb : Says w0 115 #[.agg #[.int .i64 d, .int .i64 ar], .bool mo, .slice ela el.length elc, .slice e2a e2.length e2c] (.bool b10))
    (h_td : Says w0 60 #[.agg #[.int .i64 d, .int .i64 ar]] (.bool false))
    (h_c : fc = true → b5 = true → 0 < ex.length ∧ c7 = (v == 7) ∧ ∃ b o, exa = some ⟨b, o, none⟩ ∧ b < w0.heap.size ∧ w0.cell? ⟨b, o, none⟩ = some (.int .i64 v)) (hxl : ex.length ≤ 9223372036854775807) (h6 : (b1 && (b2 && (b4 && (b5 && b6)))) = false) (w : World) (hW : Below w0.heap.size w0 w) :
    Calls Tryz.prog 75 #[.agg #[.int .i64 d, .int .i64 ar], .agg #[.slice m0a m0.length m0c, .slice m1a m1.length m1c, .int .i64 op, .string nm, .int .i64 pop, .int .i64 pn, .string pnm, .string pfd, .slice pla pl.length plc, .slice exa ex.length exc, .bool dn, .bool mo, .slice bda bd.length bdc, .slice ela el.length elc, .slice ena en.length enc, .slice e2a e2.length e2c]] w fun e w' => e = .returned (.bool (b1 && (b2 && ((true || !dn) && (b4 && (b5 && (b6 && ((!fc || c7) && (b8 && ((fo || !mo) && b10)))))))))) ∧ Below w.heap.size w w' := by
  have K_mk := Lib.hid h_mk
  have K_nw := Lib.hid h_nw
  have K_pl := Lib.hid h_pl
  have K_wt := Lib.hid h_wt
  have K_om := Lib.hid h_om
  have K_ex := Lib.hid h_ex
  have K_ba := Lib.hid h_ba
  have K_bb := Lib.hid h_bb
  have K_td := Lib.hid h_td
  have HC := Lib.hid h_c
  have HW := Lib.hid hW
  have S0 := Lib.hid (Bx2.start w (.cells #[.int .i64 d, .int .i64 ar] 51) (.cells #[.slice m0a m0.length m0c, .slice m1a m1.length m1c, .int .i64 op, .string nm, .int .i64 pop, .int .i64 pn, .string pnm, .string pfd, .slice pla pl.length plc, .slice exa ex.length exc, .bool dn, .bool mo, .slice bda bd.length bdc, .slice ela el.length elc, .slice ena en.length enc, .slice e2a e2.length e2c] 84))
  clear h_c hW h_td h_mk h_nw h_pl h_wt h_om h_ex h_ba h_bb
  go_enter Tryz.func75, Tryz.ntmps75
  go_wp2_with fail
  refine (h_sf _).mono ?_
  rintro e w1 ⟨rfl, b1x⟩
  have S1 := Lib.hid (S0.out.step b1x)
  have S2 := Lib.hid (S1.out.third (.cells #[.bool fp, .int .i64 fl, .int .i64 fm, .bool fc, .bool fb, .bool fo, .bool true] 155))
  clear b1x h_sf
  go_wp2_with fail
  obtain ⟨w2, hw2⟩ : ∃ w2, w2 = w1.alloc (.cells #[.bool fp, .int .i64 fl, .int .i64 fm, .bool fc, .bool fb, .bool fo, .bool true] 155) := ⟨_, rfl⟩
  rw [← hw2] at S2 ⊢
  have HSZ := Lib.hid hw2
  clear hw2
  have r0 := cellsRg S2.out.a
  have r1 := cellsRg S2.out.b
  have r2 := cellsRg S2.out.c
  have B2 := Lib.hid (S2.out.on HW.out)
  have G_td := Lib.hid (K_td.out.rg B2.out)
  cases b1 with
  | false =>
    have G_mk := Lib.hid (K_mk.out.rg B2.out)
    have G_nw := Lib.hid (K_nw.out.rg B2.out)
    have G_pl := Lib.hid (K_pl.out.rg B2.out)
    have G_wt := Lib.hid (K_wt.out.rg B2.out)
    have G_om := Lib.hid (K_om.out.rg B2.out)
    have G_ex := Lib.hid (K_ex.out.rg B2.out)
    have G_ba := Lib.hid (K_ba.out.rg B2.out)
    have G_bb := Lib.hid (K_bb.out.rg B2.out)
    clear K_mk K_nw K_pl K_wt K_om K_ex K_ba K_bb
    refine wp_region_quiet_below (l := opsL75) (by kernel_rfl) lex75 ?_
    unfold opsL75
    repeat (first | go_big_quiet_step ((first | with_reducible exact G_td.out _ _ | with_reducible exact G_mk.out _ _ | with_reducible exact G_nw.out _ _ | with_reducible exact G_pl.out _ _ | with_reducible exact G_wt.out _ _ | with_reducible exact G_om.out _ _ | with_reducible exact G_ex.out _ _ | with_reducible exact G_ba.out _ _ | with_reducible exact G_bb.out _ _)) | quiet_step ((first | with_reducible exact G_td.out _ _ | with_reducible exact G_mk.out _ _ | with_reducible exact G_nw.out _ _ | with_reducible exact G_pl.out _ _ | with_reducible exact G_wt.out _ _ | with_reducible exact G_om.out _ _ | with_reducible exact G_ex.out _ _ | with_reducible exact G_ba.out _ _ | with_reducible exact G_bb.out _ _)))
    refine wpQuiet_nil ?_
    intro _ hw'
    obtain ⟨⟨dq, osq⟩, hw''⟩ := hw'
    subst hw''
    have BQ := Lib.hid (S2.out.bel.trans ((below_regrown w2 dq osq).mono S2.out.bel.size))
    clear r0 r1 r2
    go_wp2_with fail
    go_ret
    exact ⟨rfl, BQ.out⟩
  | true =>
  cases b2 with
  | false =>
    have G_mk := Lib.hid (K_mk.out.rg B2.out)
    have G_nw := Lib.hid (K_nw.out.rg B2.out)
    have G_pl := Lib.hid (K_pl.out.rg B2.out)
    have G_wt := Lib.hid (K_wt.out.rg B2.out)
    have G_om := Lib.hid (K_om.out.rg B2.out)
    have G_ex := Lib.hid (K_ex.out.rg B2.out)
    have G_ba := Lib.hid (K_ba.out.rg B2.out)
    have G_bb := Lib.hid (K_bb.out.rg B2.out)
    clear K_mk K_nw K_pl K_wt K_om K_ex K_ba K_bb
    refine wp_region_quiet_below (l := opsL75) (by kernel_rfl) lex75 ?_
    unfold opsL75
    repeat (first | go_big_quiet_step ((first | with_reducible exact G_td.out _ _ | with_reducible exact G_mk.out _ _ | with_reducible exact G_nw.out _ _ | with_reducible exact G_pl.out _ _ | with_reducible exact G_wt.out _ _ | with_reducible exact G_om.out _ _ | with_reducible exact G_ex.out _ _ | with_reducible exact G_ba.out _ _ | with_reducible exact G_bb.out _ _)) | quiet_step ((first | with_reducible exact G_td.out _ _ | with_reducible exact G_mk.out _ _ | with_reducible exact G_nw.out _ _ | with_reducible exact G_pl.out _ _ | with_reducible exact G_wt.out _ _ | with_reducible exact G_om.out _ _ | with_reducible exact G_ex.out _ _ | with_reducible exact G_ba.out _ _ | with_reducible exact G_bb.out _ _)))
    refine wpQuiet_nil ?_
    intro _ hw'
    obtain ⟨⟨dq, osq⟩, hw''⟩ := hw'
    subst hw''
    have BQ := Lib.hid (S2.out.bel.trans ((below_regrown w2 dq osq).mono S2.out.bel.size))
    clear r0 r1 r2
    go_wp2_with fail
    go_ret
    exact ⟨rfl, BQ.out⟩
  | true =>
  cases b4 with
  | false =>
    have G_mk := Lib.hid (K_mk.out.rg B2.out)
    have G_nw := Lib.hid (K_nw.out.rg B2.out)
    have G_pl := Lib.hid (K_pl.out.rg B2.out)
    have G_wt := Lib.hid (K_wt.out.rg B2.out)
    have G_om := Lib.hid (K_om.out.rg B2.out)
    have G_ex := Lib.hid (K_ex.out.rg B2.out)
    have G_ba := Lib.hid (K_ba.out.rg B2.out)
    have G_bb := Lib.hid (K_bb.out.rg B2.out)
    clear K_mk K_nw K_pl K_wt K_om K_ex K_ba K_bb
    refine wp_region_quiet_below (l := opsL75) (by kernel_rfl) lex75 ?_
    unfold opsL75
    repeat (first | go_big_quiet_step ((first | with_reducible exact G_td.out _ _ | with_reducible exact G_mk.out _ _ | with_reducible exact G_nw.out _ _ | with_reducible exact G_pl.out _ _ | with_reducible exact G_wt.out _ _ | with_reducible exact G_om.out _ _ | with_reducible exact G_ex.out _ _ | with_reducible exact G_ba.out _ _ | with_reducible exact G_bb.out _ _)) | quiet_step ((first | with_reducible exact G_td.out _ _ | with_reducible exact G_mk.out _ _ | with_reducible exact G_nw.out _ _ | with_reducible exact G_pl.out _ _ | with_reducible exact G_wt.out _ _ | with_reducible exact G_om.out _ _ | with_reducible exact G_ex.out _ _ | with_reducible exact G_ba.out _ _ | with_reducible exact G_bb.out _ _)))
    refine wpQuiet_nil ?_
    intro _ hw'
    obtain ⟨⟨dq, osq⟩, hw''⟩ := hw'
    subst hw''
    have BQ := Lib.hid (S2.out.bel.trans ((below_regrown w2 dq osq).mono S2.out.bel.size))
    clear r0 r1 r2
    go_wp2_with fail
    go_ret
    exact ⟨rfl, BQ.out⟩
  | true =>
  cases b5 with
  | false =>
    have G_mk := Lib.hid (K_mk.out.rg B2.out)
    have G_nw := Lib.hid (K_nw.out.rg B2.out)
    have G_pl := Lib.hid (K_pl.out.rg B2.out)
    have G_wt := Lib.hid (K_wt.out.rg B2.out)
    have G_om := Lib.hid (K_om.out.rg B2.out)
    have G_ex := Lib.hid (K_ex.out.rg B2.out)
    have G_ba := Lib.hid (K_ba.out.rg B2.out)
    have G_bb := Lib.hid (K_bb.out.rg B2.out)
    clear K_mk K_nw K_pl K_wt K_om K_ex K_ba K_bb
    refine wp_region_quiet_below (l := opsL75) (by kernel_rfl) lex75 ?_
    unfold opsL75
    repeat (first | go_big_quiet_step ((first | with_reducible exact G_td.out _ _ | with_reducible exact G_mk.out _ _ | with_reducible exact G_nw.out _ _ | with_reducible exact G_pl.out _ _ | with_reducible exact G_wt.out _ _ | with_reducible exact G_om.out _ _ | with_reducible exact G_ex.out _ _ | with_reducible exact G_ba.out _ _ | with_reducible exact G_bb.out _ _)) | quiet_step ((first | with_reducible exact G_td.out _ _ | with_reducible exact G_mk.out _ _ | with_reducible exact G_nw.out _ _ | with_reducible exact G_pl.out _ _ | with_reducible exact G_wt.out _ _ | with_reducible exact G_om.out _ _ | with_reducible exact G_ex.out _ _ | with_reducible exact G_ba.out _ _ | with_reducible exact G_bb.out _ _)))
    refine wpQuiet_nil ?_
    intro _ hw'
    obtain ⟨⟨dq, osq⟩, hw''⟩ := hw'
    subst hw''
    have BQ := Lib.hid (S2.out.bel.trans ((below_regrown w2 dq osq).mono S2.out.bel.size))
    clear r0 r1 r2
    go_wp2_with fail
    go_ret
    exact ⟨rfl, BQ.out⟩
  | true =>
  cases b6 with
  | false =>
    have G_mk := Lib.hid (K_mk.out.rg B2.out)
    have G_nw := Lib.hid (K_nw.out.rg B2.out)
    have G_pl := Lib.hid (K_pl.out.rg B2.out)
    have G_wt := Lib.hid (K_wt.out.rg B2.out)
    have G_om := Lib.hid (K_om.out.rg B2.out)
    have G_ex := Lib.hid (K_ex.out.rg B2.out)
    have G_ba := Lib.hid (K_ba.out.rg B2.out)
    have G_bb := Lib.hid (K_bb.out.rg B2.out)
    clear K_mk K_nw K_pl K_wt K_om K_ex K_ba K_bb
    refine wp_region_quiet_below (l := opsL75) (by kernel_rfl) lex75 ?_
    unfold opsL75
    repeat (first | go_big_quiet_step ((first | with_reducible exact G_td.out _ _ | with_reducible exact G_mk.out _ _ | with_reducible exact G_nw.out _ _ | with_reducible exact G_pl.out _ _ | with_reducible exact G_wt.out _ _ | with_reducible exact G_om.out _ _ | with_reducible exact G_ex.out _ _ | with_reducible exact G_ba.out _ _ | with_reducible exact G_bb.out _ _)) | quiet_step ((first | with_reducible exact G_td.out _ _ | with_reducible exact G_mk.out _ _ | with_reducible exact G_nw.out _ _ | with_reducible exact G_pl.out _ _ | with_reducible exact G_wt.out _ _ | with_reducible exact G_om.out _ _ | with_reducible exact G_ex.out _ _ | with_reducible exact G_ba.out _ _ | with_reducible exact G_bb.out _ _)))
    refine wpQuiet_nil ?_
    intro _ hw'
    obtain ⟨⟨dq, osq⟩, hw''⟩ := hw'
    subst hw''
    have BQ := Lib.hid (S2.out.bel.trans ((below_regrown w2 dq osq).mono S2.out.bel.size))
    clear r0 r1 r2
    go_wp2_with fail
    go_ret
    exact ⟨rfl, BQ.out⟩
  | true =>
  exact absurd h6 (by simp)
set_option maxRecDepth 100000 in
set_option maxHeartbeats 32000000 in
theorem stmt_a1 (w0 : World) (d : Int) (ar : Nat) (har : ar < 48) (m0 m1 : List (List D)) (op : Int) (nm : ByteArray) (pop pn : Int) (pnm pfd : ByteArray) (pl ex : List (List D)) (mo : Bool) (bd el en e2 : List (List D)) (m0a : Option Addr) (m0c : Nat) (m1a : Option Addr) (m1c : Nat) (pla : Option Addr) (plc : Nat) (exa : Option Addr) (exc : Nat) (bda : Option Addr) (bdc : Nat) (ela : Option Addr) (elc : Nat) (ena : Option Addr) (enc : Nat) (e2a : Option Addr) (e2c : Nat) (fp fc fb fo b1 b10 b2 b4 b5 b6 b8 c7 : Bool) (fl fm v : Int)
    (h_sf : ∀ W, Calls Tryz.prog 112 #[.int .i64 op] W fun e W' => e = .returned (.tuple #[.agg #[.bool fp, .int .i64 fl, .int .i64 fm, .bool fc, .bool fb, .bool fo, .bool false], .bool true]) ∧ Below W.heap.size W W')
    (h_mk : Says w0 105 #[.agg #[.int .i64 d, .int .i64 ar], .agg #[.slice m0a m0.length m0c, .slice m1a m1.length m1c]] (.bool b1))
    (h_nw : Says w0 63 #[.agg #[.int .i64 d, .int .i64 ar], .bool false, .string nm] (.bool b2))
    (h_pl : Says w0 113 #[.agg #[.int .i64 d, .int .i64 ar], .bool fp, .agg #[.int .i64 pop, .int .i64 pn, .string pnm, .string pfd, .slice pla pl.length plc]] (.bool b4))
    (h_wt : Says w0 100 #[.int .i64 ex.length, .int .i64 fl, .int .i64 fm] (.bool b5))
    (h_om : Says w0 114 #[.agg #[.int .i64 d, .int .i64 ar]] (.agg #[.int .i64 d, .int .i64 0]))
    (h_ex : Says w0 64 #[.slice exa ex.length exc, .func (.func 25) #[.agg #[.int .i64 d, .int .i64 0]] #[]] (.bool b6))
    (h_ba : Says w0 115 #[.agg #[.int .i64 d, .int .i64 ar], .bool fb, .slice bda bd.length bdc, .slice ena en.length enc] (.bool b8))
    (h_bb : Says w0 115 #[.agg #[.int .i64 d, .int .i64 ar], .bool mo, .slice ela el.length elc, .slice e2a e2.length e2c] (.bool b10))
    (h_td : Says w0 60 #[.agg #[.int .i64 d, .int .i64 ar]] (.bool false))
    (h_c : fc = true → b5 = true → 0 < ex.length ∧ c7 = (v == 7) ∧ ∃ b o, exa = some ⟨b, o, none⟩ ∧ b < w0.heap.size ∧ w0.cell? ⟨b, o, none⟩ = some (.int .i64 v)) (hxl : ex.length ≤ 9223372036854775807) (h6 : (b1 && (b2 && (b4 && (b5 && b6)))) = false) (w : World) (hW : Below w0.heap.size w0 w) :
    Calls Tryz.prog 75 #[.agg #[.int .i64 d, .int .i64 ar], .agg #[.slice m0a m0.length m0c, .slice m1a m1.length m1c, .int .i64 op, .string nm, .int .i64 pop, .int .i64 pn, .string pnm, .string pfd, .slice pla pl.length plc, .slice exa ex.length exc, .bool false, .bool mo, .slice bda bd.length bdc, .slice ela el.length elc, .slice ena en.length enc, .slice e2a e2.length e2c]] w fun e w' => e = .returned (.bool (b1 && (b2 && ((false || !false) && (b4 && (b5 && (b6 && ((!fc || c7) && (b8 && ((fo || !mo) && b10)))))))))) ∧ Below w.heap.size w w' := by
  have K_mk := Lib.hid h_mk
  have K_nw := Lib.hid h_nw
  have K_pl := Lib.hid h_pl
  have K_wt := Lib.hid h_wt
  have K_om := Lib.hid h_om
  have K_ex := Lib.hid h_ex
  have K_ba := Lib.hid h_ba
  have K_bb := Lib.hid h_bb
  have K_td := Lib.hid h_td
  have HC := Lib.hid h_c
  have HW := Lib.hid hW
  have S0 := Lib.hid (Bx2.start w (.cells #[.int .i64 d, .int .i64 ar] 51) (.cells #[.slice m0a m0.length m0c, .slice m1a m1.length m1c, .int .i64 op, .string nm, .int .i64 pop, .int .i64 pn, .string pnm, .string pfd, .slice pla pl.length plc, .slice exa ex.length exc, .bool false, .bool mo, .slice bda bd.length bdc, .slice ela el.length elc, .slice ena en.length enc, .slice e2a e2.length e2c] 84))
  clear h_c hW h_td h_mk h_nw h_pl h_wt h_om h_ex h_ba h_bb
  go_enter Tryz.func75, Tryz.ntmps75
  go_wp2_with fail
  refine (h_sf _).mono ?_
  rintro e w1 ⟨rfl, b1x⟩
  have S1 := Lib.hid (S0.out.step b1x)
  have S2 := Lib.hid (S1.out.third (.cells #[.bool fp, .int .i64 fl, .int .i64 fm, .bool fc, .bool fb, .bool fo, .bool false] 155))
  clear b1x h_sf
  go_wp2_with fail
  obtain ⟨w2, hw2⟩ : ∃ w2, w2 = w1.alloc (.cells #[.bool fp, .int .i64 fl, .int .i64 fm, .bool fc, .bool fb, .bool fo, .bool false] 155) := ⟨_, rfl⟩
  rw [← hw2] at S2 ⊢
  have HSZ := Lib.hid hw2
  clear hw2
  have r0 := cellsRg S2.out.a
  have r1 := cellsRg S2.out.b
  have r2 := cellsRg S2.out.c
  have B2 := Lib.hid (S2.out.on HW.out)
  have G_td := Lib.hid (K_td.out.rg B2.out)
  cases b1 with
  | false =>
    have G_mk := Lib.hid (K_mk.out.rg B2.out)
    have G_nw := Lib.hid (K_nw.out.rg B2.out)
    have G_pl := Lib.hid (K_pl.out.rg B2.out)
    have G_wt := Lib.hid (K_wt.out.rg B2.out)
    have G_om := Lib.hid (K_om.out.rg B2.out)
    have G_ex := Lib.hid (K_ex.out.rg B2.out)
    have G_ba := Lib.hid (K_ba.out.rg B2.out)
    have G_bb := Lib.hid (K_bb.out.rg B2.out)
    clear K_mk K_nw K_pl K_wt K_om K_ex K_ba K_bb
    refine wp_region_quiet_below (l := opsL75) (by kernel_rfl) lex75 ?_
    unfold opsL75
    repeat (first | go_big_quiet_step ((first | with_reducible exact G_td.out _ _ | with_reducible exact G_mk.out _ _ | with_reducible exact G_nw.out _ _ | with_reducible exact G_pl.out _ _ | with_reducible exact G_wt.out _ _ | with_reducible exact G_om.out _ _ | with_reducible exact G_ex.out _ _ | with_reducible exact G_ba.out _ _ | with_reducible exact G_bb.out _ _)) | quiet_step ((first | with_reducible exact G_td.out _ _ | with_reducible exact G_mk.out _ _ | with_reducible exact G_nw.out _ _ | with_reducible exact G_pl.out _ _ | with_reducible exact G_wt.out _ _ | with_reducible exact G_om.out _ _ | with_reducible exact G_ex.out _ _ | with_reducible exact G_ba.out _ _ | with_reducible exact G_bb.out _ _)))
    refine wpQuiet_nil ?_
    intro _ hw'
    obtain ⟨⟨dq, osq⟩, hw''⟩ := hw'
    subst hw''
    have BQ := Lib.hid (S2.out.bel.trans ((below_regrown w2 dq osq).mono S2.out.bel.size))
    clear r0 r1 r2
    go_wp2_with fail
    go_ret
    exact ⟨rfl, BQ.out⟩
  | true =>
  cases b2 with
  | false =>
    have G_mk := Lib.hid (K_mk.out.rg B2.out)
    have G_nw := Lib.hid (K_nw.out.rg B2.out)
    have G_pl := Lib.hid (K_pl.out.rg B2.out)
    have G_wt := Lib.hid (K_wt.out.rg B2.out)
    have G_om := Lib.hid (K_om.out.rg B2.out)
    have G_ex := Lib.hid (K_ex.out.rg B2.out)
    have G_ba := Lib.hid (K_ba.out.rg B2.out)
    have G_bb := Lib.hid (K_bb.out.rg B2.out)
    clear K_mk K_nw K_pl K_wt K_om K_ex K_ba K_bb
    refine wp_region_quiet_below (l := opsL75) (by kernel_rfl) lex75 ?_
    unfold opsL75
    repeat (first | go_big_quiet_step ((first | with_reducible exact G_td.out _ _ | with_reducible exact G_mk.out _ _ | with_reducible exact G_nw.out _ _ | with_reducible exact G_pl.out _ _ | with_reducible exact G_wt.out _ _ | with_reducible exact G_om.out _ _ | with_reducible exact G_ex.out _ _ | with_reducible exact G_ba.out _ _ | with_reducible exact G_bb.out _ _)) | quiet_step ((first | with_reducible exact G_td.out _ _ | with_reducible exact G_mk.out _ _ | with_reducible exact G_nw.out _ _ | with_reducible exact G_pl.out _ _ | with_reducible exact G_wt.out _ _ | with_reducible exact G_om.out _ _ | with_reducible exact G_ex.out _ _ | with_reducible exact G_ba.out _ _ | with_reducible exact G_bb.out _ _)))
    refine wpQuiet_nil ?_
    intro _ hw'
    obtain ⟨⟨dq, osq⟩, hw''⟩ := hw'
    subst hw''
    have BQ := Lib.hid (S2.out.bel.trans ((below_regrown w2 dq osq).mono S2.out.bel.size))
    clear r0 r1 r2
    go_wp2_with fail
    go_ret
    exact ⟨rfl, BQ.out⟩
  | true =>
  cases b4 with
  | false =>
    have G_mk := Lib.hid (K_mk.out.rg B2.out)
    have G_nw := Lib.hid (K_nw.out.rg B2.out)
    have G_pl := Lib.hid (K_pl.out.rg B2.out)
    have G_wt := Lib.hid (K_wt.out.rg B2.out)
    have G_om := Lib.hid (K_om.out.rg B2.out)
    have G_ex := Lib.hid (K_ex.out.rg B2.out)
    have G_ba := Lib.hid (K_ba.out.rg B2.out)
    have G_bb := Lib.hid (K_bb.out.rg B2.out)
    clear K_mk K_nw K_pl K_wt K_om K_ex K_ba K_bb
    refine wp_region_quiet_below (l := opsL75) (by kernel_rfl) lex75 ?_
    unfold opsL75
    repeat (first | go_big_quiet_step ((first | with_reducible exact G_td.out _ _ | with_reducible exact G_mk.out _ _ | with_reducible exact G_nw.out _ _ | with_reducible exact G_pl.out _ _ | with_reducible exact G_wt.out _ _ | with_reducible exact G_om.out _ _ | with_reducible exact G_ex.out _ _ | with_reducible exact G_ba.out _ _ | with_reducible exact G_bb.out _ _)) | quiet_step ((first | with_reducible exact G_td.out _ _ | with_reducible exact G_mk.out _ _ | with_reducible exact G_nw.out _ _ | with_reducible exact G_pl.out _ _ | with_reducible exact G_wt.out _ _ | with_reducible exact G_om.out _ _ | with_reducible exact G_ex.out _ _ | with_reducible exact G_ba.out _ _ | with_reducible exact G_bb.out _ _)))
    refine wpQuiet_nil ?_
    intro _ hw'
    obtain ⟨⟨dq, osq⟩, hw''⟩ := hw'
    subst hw''
    have BQ := Lib.hid (S2.out.bel.trans ((below_regrown w2 dq osq).mono S2.out.bel.size))
    clear r0 r1 r2
    go_wp2_with fail
    go_ret
    exact ⟨rfl, BQ.out⟩
  | true =>
  cases b5 with
  | false =>
    have G_mk := Lib.hid (K_mk.out.rg B2.out)
    have G_nw := Lib.hid (K_nw.out.rg B2.out)
    have G_pl := Lib.hid (K_pl.out.rg B2.out)
    have G_wt := Lib.hid (K_wt.out.rg B2.out)
    have G_om := Lib.hid (K_om.out.rg B2.out)
    have G_ex := Lib.hid (K_ex.out.rg B2.out)
    have G_ba := Lib.hid (K_ba.out.rg B2.out)
    have G_bb := Lib.hid (K_bb.out.rg B2.out)
    clear K_mk K_nw K_pl K_wt K_om K_ex K_ba K_bb
    refine wp_region_quiet_below (l := opsL75) (by kernel_rfl) lex75 ?_
    unfold opsL75
    repeat (first | go_big_quiet_step ((first | with_reducible exact G_td.out _ _ | with_reducible exact G_mk.out _ _ | with_reducible exact G_nw.out _ _ | with_reducible exact G_pl.out _ _ | with_reducible exact G_wt.out _ _ | with_reducible exact G_om.out _ _ | with_reducible exact G_ex.out _ _ | with_reducible exact G_ba.out _ _ | with_reducible exact G_bb.out _ _)) | quiet_step ((first | with_reducible exact G_td.out _ _ | with_reducible exact G_mk.out _ _ | with_reducible exact G_nw.out _ _ | with_reducible exact G_pl.out _ _ | with_reducible exact G_wt.out _ _ | with_reducible exact G_om.out _ _ | with_reducible exact G_ex.out _ _ | with_reducible exact G_ba.out _ _ | with_reducible exact G_bb.out _ _)))
    refine wpQuiet_nil ?_
    intro _ hw'
    obtain ⟨⟨dq, osq⟩, hw''⟩ := hw'
    subst hw''
    have BQ := Lib.hid (S2.out.bel.trans ((below_regrown w2 dq osq).mono S2.out.bel.size))
    clear r0 r1 r2
    go_wp2_with fail
    go_ret
    exact ⟨rfl, BQ.out⟩
  | true =>
  cases b6 with
  | false =>
    have G_mk := Lib.hid (K_mk.out.rg B2.out)
    have G_nw := Lib.hid (K_nw.out.rg B2.out)
    have G_pl := Lib.hid (K_pl.out.rg B2.out)
    have G_wt := Lib.hid (K_wt.out.rg B2.out)
    have G_om := Lib.hid (K_om.out.rg B2.out)
    have G_ex := Lib.hid (K_ex.out.rg B2.out)
    have G_ba := Lib.hid (K_ba.out.rg B2.out)
    have G_bb := Lib.hid (K_bb.out.rg B2.out)
    clear K_mk K_nw K_pl K_wt K_om K_ex K_ba K_bb
    refine wp_region_quiet_below (l := opsL75) (by kernel_rfl) lex75 ?_
    unfold opsL75
    repeat (first | go_big_quiet_step ((first | with_reducible exact G_td.out _ _ | with_reducible exact G_mk.out _ _ | with_reducible exact G_nw.out _ _ | with_reducible exact G_pl.out _ _ | with_reducible exact G_wt.out _ _ | with_reducible exact G_om.out _ _ | with_reducible exact G_ex.out _ _ | with_reducible exact G_ba.out _ _ | with_reducible exact G_bb.out _ _)) | quiet_step ((first | with_reducible exact G_td.out _ _ | with_reducible exact G_mk.out _ _ | with_reducible exact G_nw.out _ _ | with_reducible exact G_pl.out _ _ | with_reducible exact G_wt.out _ _ | with_reducible exact G_om.out _ _ | with_reducible exact G_ex.out _ _ | with_reducible exact G_ba.out _ _ | with_reducible exact G_bb.out _ _)))
    refine wpQuiet_nil ?_
    intro _ hw'
    obtain ⟨⟨dq, osq⟩, hw''⟩ := hw'
    subst hw''
    have BQ := Lib.hid (S2.out.bel.trans ((below_regrown w2 dq osq).mono S2.out.bel.size))
    clear r0 r1 r2
    go_wp2_with fail
    go_ret
    exact ⟨rfl, BQ.out⟩
  | true =>
  exact absurd h6 (by simp)
set_option maxRecDepth 100000 in
set_option maxHeartbeats 32000000 in
theorem stmt_a2 (w0 : World) (d : Int) (ar : Nat) (har : ar < 48) (m0 m1 : List (List D)) (op : Int) (nm : ByteArray) (pop pn : Int) (pnm pfd : ByteArray) (pl ex : List (List D)) (mo : Bool) (bd el en e2 : List (List D)) (m0a : Option Addr) (m0c : Nat) (m1a : Option Addr) (m1c : Nat) (pla : Option Addr) (plc : Nat) (exa : Option Addr) (exc : Nat) (bda : Option Addr) (bdc : Nat) (ela : Option Addr) (elc : Nat) (ena : Option Addr) (enc : Nat) (e2a : Option Addr) (e2c : Nat) (fp fc fb fo b1 b10 b2 b4 b5 b6 b8 c7 : Bool) (fl fm v : Int)
    (h_sf : ∀ W, Calls Tryz.prog 112 #[.int .i64 op] W fun e W' => e = .returned (.tuple #[.agg #[.bool fp, .int .i64 fl, .int .i64 fm, .bool fc, .bool fb, .bool fo, .bool false], .bool true]) ∧ Below W.heap.size W W')
    (h_mk : Says w0 105 #[.agg #[.int .i64 d, .int .i64 ar], .agg #[.slice m0a m0.length m0c, .slice m1a m1.length m1c]] (.bool b1))
    (h_nw : Says w0 63 #[.agg #[.int .i64 d, .int .i64 ar], .bool false, .string nm] (.bool b2))
    (h_pl : Says w0 113 #[.agg #[.int .i64 d, .int .i64 ar], .bool fp, .agg #[.int .i64 pop, .int .i64 pn, .string pnm, .string pfd, .slice pla pl.length plc]] (.bool b4))
    (h_wt : Says w0 100 #[.int .i64 ex.length, .int .i64 fl, .int .i64 fm] (.bool b5))
    (h_om : Says w0 114 #[.agg #[.int .i64 d, .int .i64 ar]] (.agg #[.int .i64 d, .int .i64 0]))
    (h_ex : Says w0 64 #[.slice exa ex.length exc, .func (.func 25) #[.agg #[.int .i64 d, .int .i64 0]] #[]] (.bool b6))
    (h_ba : Says w0 115 #[.agg #[.int .i64 d, .int .i64 ar], .bool fb, .slice bda bd.length bdc, .slice ena en.length enc] (.bool b8))
    (h_bb : Says w0 115 #[.agg #[.int .i64 d, .int .i64 ar], .bool mo, .slice ela el.length elc, .slice e2a e2.length e2c] (.bool b10))
    (h_td : Says w0 60 #[.agg #[.int .i64 d, .int .i64 ar]] (.bool false))
    (h_c : fc = true → b5 = true → 0 < ex.length ∧ c7 = (v == 7) ∧ ∃ b o, exa = some ⟨b, o, none⟩ ∧ b < w0.heap.size ∧ w0.cell? ⟨b, o, none⟩ = some (.int .i64 v)) (hxl : ex.length ≤ 9223372036854775807) (w : World) (hW : Below w0.heap.size w0 w) :
    Calls Tryz.prog 75 #[.agg #[.int .i64 d, .int .i64 ar], .agg #[.slice m0a m0.length m0c, .slice m1a m1.length m1c, .int .i64 op, .string nm, .int .i64 pop, .int .i64 pn, .string pnm, .string pfd, .slice pla pl.length plc, .slice exa ex.length exc, .bool true, .bool mo, .slice bda bd.length bdc, .slice ela el.length elc, .slice ena en.length enc, .slice e2a e2.length e2c]] w fun e w' => e = .returned (.bool (b1 && (b2 && ((false || !true) && (b4 && (b5 && (b6 && ((!fc || c7) && (b8 && ((fo || !mo) && b10)))))))))) ∧ Below w.heap.size w w' := by
  have K_mk := Lib.hid h_mk
  have K_nw := Lib.hid h_nw
  have K_pl := Lib.hid h_pl
  have K_wt := Lib.hid h_wt
  have K_om := Lib.hid h_om
  have K_ex := Lib.hid h_ex
  have K_ba := Lib.hid h_ba
  have K_bb := Lib.hid h_bb
  have K_td := Lib.hid h_td
  have HC := Lib.hid h_c
  have HW := Lib.hid hW
  have S0 := Lib.hid (Bx2.start w (.cells #[.int .i64 d, .int .i64 ar] 51) (.cells #[.slice m0a m0.length m0c, .slice m1a m1.length m1c, .int .i64 op, .string nm, .int .i64 pop, .int .i64 pn, .string pnm, .string pfd, .slice pla pl.length plc, .slice exa ex.length exc, .bool true, .bool mo, .slice bda bd.length bdc, .slice ela el.length elc, .slice ena en.length enc, .slice e2a e2.length e2c] 84))
  clear h_c hW h_td h_mk h_nw h_pl h_wt h_om h_ex h_ba h_bb
  go_enter Tryz.func75, Tryz.ntmps75
  go_wp2_with fail
  refine (h_sf _).mono ?_
  rintro e w1 ⟨rfl, b1x⟩
  have S1 := Lib.hid (S0.out.step b1x)
  have S2 := Lib.hid (S1.out.third (.cells #[.bool fp, .int .i64 fl, .int .i64 fm, .bool fc, .bool fb, .bool fo, .bool false] 155))
  clear b1x h_sf
  go_wp2_with fail
  obtain ⟨w2, hw2⟩ : ∃ w2, w2 = w1.alloc (.cells #[.bool fp, .int .i64 fl, .int .i64 fm, .bool fc, .bool fb, .bool fo, .bool false] 155) := ⟨_, rfl⟩
  rw [← hw2] at S2 ⊢
  have HSZ := Lib.hid hw2
  clear hw2
  have r0 := cellsRg S2.out.a
  have r1 := cellsRg S2.out.b
  have r2 := cellsRg S2.out.c
  have B2 := Lib.hid (S2.out.on HW.out)
  have G_td := Lib.hid (K_td.out.rg B2.out)
  cases b1 with
  | false =>
    have G_mk := Lib.hid (K_mk.out.rg B2.out)
    have G_nw := Lib.hid (K_nw.out.rg B2.out)
    have G_pl := Lib.hid (K_pl.out.rg B2.out)
    have G_wt := Lib.hid (K_wt.out.rg B2.out)
    have G_om := Lib.hid (K_om.out.rg B2.out)
    have G_ex := Lib.hid (K_ex.out.rg B2.out)
    have G_ba := Lib.hid (K_ba.out.rg B2.out)
    have G_bb := Lib.hid (K_bb.out.rg B2.out)
    clear K_mk K_nw K_pl K_wt K_om K_ex K_ba K_bb
    refine wp_region_quiet_below (l := opsL75) (by kernel_rfl) lex75 ?_
    unfold opsL75
    repeat (first | go_big_quiet_step ((first | with_reducible exact G_td.out _ _ | with_reducible exact G_mk.out _ _ | with_reducible exact G_nw.out _ _ | with_reducible exact G_pl.out _ _ | with_reducible exact G_wt.out _ _ | with_reducible exact G_om.out _ _ | with_reducible exact G_ex.out _ _ | with_reducible exact G_ba.out _ _ | with_reducible exact G_bb.out _ _)) | quiet_step ((first | with_reducible exact G_td.out _ _ | with_reducible exact G_mk.out _ _ | with_reducible exact G_nw.out _ _ | with_reducible exact G_pl.out _ _ | with_reducible exact G_wt.out _ _ | with_reducible exact G_om.out _ _ | with_reducible exact G_ex.out _ _ | with_reducible exact G_ba.out _ _ | with_reducible exact G_bb.out _ _)))
    refine wpQuiet_nil ?_
    intro _ hw'
    obtain ⟨⟨dq, osq⟩, hw''⟩ := hw'
    subst hw''
    have BQ := Lib.hid (S2.out.bel.trans ((below_regrown w2 dq osq).mono S2.out.bel.size))
    clear r0 r1 r2
    go_wp2_with fail
    go_ret
    exact ⟨rfl, BQ.out⟩
  | true =>
  cases b2 with
  | false =>
    have G_mk := Lib.hid (K_mk.out.rg B2.out)
    have G_nw := Lib.hid (K_nw.out.rg B2.out)
    have G_pl := Lib.hid (K_pl.out.rg B2.out)
    have G_wt := Lib.hid (K_wt.out.rg B2.out)
    have G_om := Lib.hid (K_om.out.rg B2.out)
    have G_ex := Lib.hid (K_ex.out.rg B2.out)
    have G_ba := Lib.hid (K_ba.out.rg B2.out)
    have G_bb := Lib.hid (K_bb.out.rg B2.out)
    clear K_mk K_nw K_pl K_wt K_om K_ex K_ba K_bb
    refine wp_region_quiet_below (l := opsL75) (by kernel_rfl) lex75 ?_
    unfold opsL75
    repeat (first | go_big_quiet_step ((first | with_reducible exact G_td.out _ _ | with_reducible exact G_mk.out _ _ | with_reducible exact G_nw.out _ _ | with_reducible exact G_pl.out _ _ | with_reducible exact G_wt.out _ _ | with_reducible exact G_om.out _ _ | with_reducible exact G_ex.out _ _ | with_reducible exact G_ba.out _ _ | with_reducible exact G_bb.out _ _)) | quiet_step ((first | with_reducible exact G_td.out _ _ | with_reducible exact G_mk.out _ _ | with_reducible exact G_nw.out _ _ | with_reducible exact G_pl.out _ _ | with_reducible exact G_wt.out _ _ | with_reducible exact G_om.out _ _ | with_reducible exact G_ex.out _ _ | with_reducible exact G_ba.out _ _ | with_reducible exact G_bb.out _ _)))
    refine wpQuiet_nil ?_
    intro _ hw'
    obtain ⟨⟨dq, osq⟩, hw''⟩ := hw'
    subst hw''
    have BQ := Lib.hid (S2.out.bel.trans ((below_regrown w2 dq osq).mono S2.out.bel.size))
    clear r0 r1 r2
    go_wp2_with fail
    go_ret
    exact ⟨rfl, BQ.out⟩
  | true =>
  have G_mk := Lib.hid (K_mk.out.rg B2.out)
  have G_nw := Lib.hid (K_nw.out.rg B2.out)
  have G_pl := Lib.hid (K_pl.out.rg B2.out)
  have G_wt := Lib.hid (K_wt.out.rg B2.out)
  have G_om := Lib.hid (K_om.out.rg B2.out)
  have G_ex := Lib.hid (K_ex.out.rg B2.out)
  have G_ba := Lib.hid (K_ba.out.rg B2.out)
  have G_bb := Lib.hid (K_bb.out.rg B2.out)
  clear K_mk K_nw K_pl K_wt K_om K_ex K_ba K_bb
  refine wp_region_quiet_below (l := opsL75) (by kernel_rfl) lex75 ?_
  unfold opsL75
  repeat (first | go_big_quiet_step ((first | with_reducible exact G_td.out _ _ | with_reducible exact G_mk.out _ _ | with_reducible exact G_nw.out _ _ | with_reducible exact G_pl.out _ _ | with_reducible exact G_wt.out _ _ | with_reducible exact G_om.out _ _ | with_reducible exact G_ex.out _ _ | with_reducible exact G_ba.out _ _ | with_reducible exact G_bb.out _ _)) | quiet_step ((first | with_reducible exact G_td.out _ _ | with_reducible exact G_mk.out _ _ | with_reducible exact G_nw.out _ _ | with_reducible exact G_pl.out _ _ | with_reducible exact G_wt.out _ _ | with_reducible exact G_om.out _ _ | with_reducible exact G_ex.out _ _ | with_reducible exact G_ba.out _ _ | with_reducible exact G_bb.out _ _)))
  refine wpQuiet_nil ?_
  intro _ hw'
  obtain ⟨⟨dq, osq⟩, hw''⟩ := hw'
  subst hw''
  have BQ := Lib.hid (S2.out.bel.trans ((below_regrown w2 dq osq).mono S2.out.bel.size))
  clear r0 r1 r2
  go_wp2_with fail
  go_ret
  exact ⟨rfl, BQ.out⟩
end Go.Proofs.YtciijpahjjoppaaGreat
end
section
namespace Go.Proofs.YtciijpahjjoppaaGreat
open Go.RowKit Go.Deep Go.Maps Go.Sort
set_option linter.unusedVariables false

set_option maxRecDepth 100000 in
set_option maxHeartbeats 32000000 in
theorem stmt_b0 (w0 : World) (d : Int) (ar : Nat) (har : ar < 48) (m0 m1 : List (List D)) (op : Int) (nm : ByteArray) (pop pn : Int) (pnm pfd : ByteArray) (pl ex : List (List D)) (dn mo : Bool) (bd el en e2 : List (List D)) (m0a : Option Addr) (m0c : Nat) (m1a : Option Addr) (m1c : Nat) (pla : Option Addr) (plc : Nat) (exa : Option Addr) (exc : Nat) (bda : Option Addr) (bdc : Nat) (ela : Option Addr) (elc : Nat) (ena : Option Addr) (enc : Nat) (e2a : Option Addr) (e2c : Nat) (fp fc fb fo b10 b8 c7 : Bool) (fl fm v : Int)
    (h_sf : ∀ W, Calls Tryz.prog 112 #[.int .i64 op] W fun e W' => e = .returned (.tuple #[.agg #[.bool fp, .int .i64 fl, .int .i64 fm, .bool fc, .bool fb, .bool fo, .bool true], .bool true]) ∧ Below W.heap.size W W')
    (h_mk : Says w0 105 #[.agg #[.int .i64 d, .int .i64 ar], .agg #[.slice m0a m0.length m0c, .slice m1a m1.length m1c]] (.bool true))
    (h_nw : Says w0 63 #[.agg #[.int .i64 d, .int .i64 ar], .bool true, .string nm] (.bool true))
    (h_pl : Says w0 113 #[.agg #[.int .i64 d, .int .i64 ar], .bool fp, .agg #[.int .i64 pop, .int .i64 pn, .string pnm, .string pfd, .slice pla pl.length plc]] (.bool true))
    (h_wt : Says w0 100 #[.int .i64 ex.length, .int .i64 fl, .int .i64 fm] (.bool true))
    (h_om : Says w0 114 #[.agg #[.int .i64 d, .int .i64 ar]] (.agg #[.int .i64 d, .int .i64 0]))
    (h_ex : Says w0 64 #[.slice exa ex.length exc, .func (.func 25) #[.agg #[.int .i64 d, .int .i64 0]] #[]] (.bool true))
    (h_ba : Says w0 115 #[.agg #[.int .i64 d, .int .i64 ar], .bool fb, .slice bda bd.length bdc, .slice ena en.length enc] (.bool b8))
    (h_bb : Says w0 115 #[.agg #[.int .i64 d, .int .i64 ar], .bool mo, .slice ela el.length elc, .slice e2a e2.length e2c] (.bool b10))
    (h_td : Says w0 60 #[.agg #[.int .i64 d, .int .i64 ar]] (.bool false))
    (h_c : fc = true → true = true → 0 < ex.length ∧ c7 = (v == 7) ∧ ∃ b o, exa = some ⟨b, o, none⟩ ∧ b < w0.heap.size ∧ w0.cell? ⟨b, o, none⟩ = some (.int .i64 v)) (hxl : ex.length ≤ 9223372036854775807) (w : World) (hW : Below w0.heap.size w0 w) :
    Calls Tryz.prog 75 #[.agg #[.int .i64 d, .int .i64 ar], .agg #[.slice m0a m0.length m0c, .slice m1a m1.length m1c, .int .i64 op, .string nm, .int .i64 pop, .int .i64 pn, .string pnm, .string pfd, .slice pla pl.length plc, .slice exa ex.length exc, .bool dn, .bool mo, .slice bda bd.length bdc, .slice ela el.length elc, .slice ena en.length enc, .slice e2a e2.length e2c]] w fun e w' => e = .returned (.bool (true && (true && ((true || !dn) && (true && (true && (true && ((!fc || c7) && (b8 && ((fo || !mo) && b10)))))))))) ∧ Below w.heap.size w w' := by
  have K_mk := Lib.hid h_mk
  have K_nw := Lib.hid h_nw
  have K_pl := Lib.hid h_pl
  have K_wt := Lib.hid h_wt
  have K_om := Lib.hid h_om
  have K_ex := Lib.hid h_ex
  have K_ba := Lib.hid h_ba
  have K_bb := Lib.hid h_bb
  have K_td := Lib.hid h_td
  have HC := Lib.hid h_c
  have HW := Lib.hid hW
  have S0 := Lib.hid (Bx2.start w (.cells #[.int .i64 d, .int .i64 ar] 51) (.cells #[.slice m0a m0.length m0c, .slice m1a m1.length m1c, .int .i64 op, .string nm, .int .i64 pop, .int .i64 pn, .string pnm, .string pfd, .slice pla pl.length plc, .slice exa ex.length exc, .bool dn, .bool mo, .slice bda bd.length bdc, .slice ela el.length elc, .slice ena en.length enc, .slice e2a e2.length e2c] 84))
  clear h_c hW h_td h_mk h_nw h_pl h_wt h_om h_ex h_ba h_bb
  go_enter Tryz.func75, Tryz.ntmps75
  go_wp2_with fail
  refine (h_sf _).mono ?_
  rintro e w1 ⟨rfl, b1x⟩
  have S1 := Lib.hid (S0.out.step b1x)
  have S2 := Lib.hid (S1.out.third (.cells #[.bool fp, .int .i64 fl, .int .i64 fm, .bool fc, .bool fb, .bool fo, .bool true] 155))
  clear b1x h_sf
  go_wp2_with fail
  obtain ⟨w2, hw2⟩ : ∃ w2, w2 = w1.alloc (.cells #[.bool fp, .int .i64 fl, .int .i64 fm, .bool fc, .bool fb, .bool fo, .bool true] 155) := ⟨_, rfl⟩
  rw [← hw2] at S2 ⊢
  have HSZ := Lib.hid hw2
  clear hw2
  have r0 := cellsRg S2.out.a
  have r1 := cellsRg S2.out.b
  have r2 := cellsRg S2.out.c
  have B2 := Lib.hid (S2.out.on HW.out)
  have G_td := Lib.hid (K_td.out.rg B2.out)
  cases fc with
  | false =>
    cases b8 with
    | false =>
      have G_mk := Lib.hid (K_mk.out.rg B2.out)
      have G_nw := Lib.hid (K_nw.out.rg B2.out)
      have G_pl := Lib.hid (K_pl.out.rg B2.out)
      have G_wt := Lib.hid (K_wt.out.rg B2.out)
      have G_om := Lib.hid (K_om.out.rg B2.out)
      have G_ex := Lib.hid (K_ex.out.rg B2.out)
      have G_ba := Lib.hid (K_ba.out.rg B2.out)
      have G_bb := Lib.hid (K_bb.out.rg B2.out)
      clear K_mk K_nw K_pl K_wt K_om K_ex K_ba K_bb
      refine wp_region_quiet_below (l := opsL75) (by kernel_rfl) lex75 ?_
      unfold opsL75
      repeat (first | go_big_quiet_step ((first | with_reducible exact G_td.out _ _ | with_reducible exact G_mk.out _ _ | with_reducible exact G_nw.out _ _ | with_reducible exact G_pl.out _ _ | with_reducible exact G_wt.out _ _ | with_reducible exact G_om.out _ _ | with_reducible exact G_ex.out _ _ | with_reducible exact G_ba.out _ _ | with_reducible exact G_bb.out _ _)) | quiet_step ((first | with_reducible exact G_td.out _ _ | with_reducible exact G_mk.out _ _ | with_reducible exact G_nw.out _ _ | with_reducible exact G_pl.out _ _ | with_reducible exact G_wt.out _ _ | with_reducible exact G_om.out _ _ | with_reducible exact G_ex.out _ _ | with_reducible exact G_ba.out _ _ | with_reducible exact G_bb.out _ _)))
      refine wpQuiet_nil ?_
      intro _ hw'
      obtain ⟨⟨dq, osq⟩, hw''⟩ := hw'
      subst hw''
      have BQ := Lib.hid (S2.out.bel.trans ((below_regrown w2 dq osq).mono S2.out.bel.size))
      clear r0 r1 r2
      go_wp2_with fail
      go_ret
      exact ⟨rfl, BQ.out⟩
    | true =>
    cases fo with
    | true =>
      cases b10 with
      | false =>
        have G_mk := Lib.hid (K_mk.out.rg B2.out)
        have G_nw := Lib.hid (K_nw.out.rg B2.out)
        have G_pl := Lib.hid (K_pl.out.rg B2.out)
        have G_wt := Lib.hid (K_wt.out.rg B2.out)
        have G_om := Lib.hid (K_om.out.rg B2.out)
        have G_ex := Lib.hid (K_ex.out.rg B2.out)
        have G_ba := Lib.hid (K_ba.out.rg B2.out)
        have G_bb := Lib.hid (K_bb.out.rg B2.out)
        clear K_mk K_nw K_pl K_wt K_om K_ex K_ba K_bb
        refine wp_region_quiet_below (l := opsL75) (by kernel_rfl) lex75 ?_
        unfold opsL75
        repeat (first | go_big_quiet_step ((first | with_reducible exact G_td.out _ _ | with_reducible exact G_mk.out _ _ | with_reducible exact G_nw.out _ _ | with_reducible exact G_pl.out _ _ | with_reducible exact G_wt.out _ _ | with_reducible exact G_om.out _ _ | with_reducible exact G_ex.out _ _ | with_reducible exact G_ba.out _ _ | with_reducible exact G_bb.out _ _)) | quiet_step ((first | with_reducible exact G_td.out _ _ | with_reducible exact G_mk.out _ _ | with_reducible exact G_nw.out _ _ | with_reducible exact G_pl.out _ _ | with_reducible exact G_wt.out _ _ | with_reducible exact G_om.out _ _ | with_reducible exact G_ex.out _ _ | with_reducible exact G_ba.out _ _ | with_reducible exact G_bb.out _ _)))
        refine wpQuiet_nil ?_
        intro _ hw'
        obtain ⟨⟨dq, osq⟩, hw''⟩ := hw'
        subst hw''
        have BQ := Lib.hid (S2.out.bel.trans ((below_regrown w2 dq osq).mono S2.out.bel.size))
        clear r0 r1 r2
        go_wp2_with fail
        go_ret
        exact ⟨rfl, BQ.out⟩
      | true =>
        have G_mk := Lib.hid (K_mk.out.rg B2.out)
        have G_nw := Lib.hid (K_nw.out.rg B2.out)
        have G_pl := Lib.hid (K_pl.out.rg B2.out)
        have G_wt := Lib.hid (K_wt.out.rg B2.out)
        have G_om := Lib.hid (K_om.out.rg B2.out)
        have G_ex := Lib.hid (K_ex.out.rg B2.out)
        have G_ba := Lib.hid (K_ba.out.rg B2.out)
        have G_bb := Lib.hid (K_bb.out.rg B2.out)
        clear K_mk K_nw K_pl K_wt K_om K_ex K_ba K_bb
        refine wp_region_quiet_below (l := opsL75) (by kernel_rfl) lex75 ?_
        unfold opsL75
        repeat (first | go_big_quiet_step ((first | with_reducible exact G_td.out _ _ | with_reducible exact G_mk.out _ _ | with_reducible exact G_nw.out _ _ | with_reducible exact G_pl.out _ _ | with_reducible exact G_wt.out _ _ | with_reducible exact G_om.out _ _ | with_reducible exact G_ex.out _ _ | with_reducible exact G_ba.out _ _ | with_reducible exact G_bb.out _ _)) | quiet_step ((first | with_reducible exact G_td.out _ _ | with_reducible exact G_mk.out _ _ | with_reducible exact G_nw.out _ _ | with_reducible exact G_pl.out _ _ | with_reducible exact G_wt.out _ _ | with_reducible exact G_om.out _ _ | with_reducible exact G_ex.out _ _ | with_reducible exact G_ba.out _ _ | with_reducible exact G_bb.out _ _)))
        refine wpQuiet_nil ?_
        intro _ hw'
        obtain ⟨⟨dq, osq⟩, hw''⟩ := hw'
        subst hw''
        have BQ := Lib.hid (S2.out.bel.trans ((below_regrown w2 dq osq).mono S2.out.bel.size))
        clear r0 r1 r2
        go_wp2_with fail
        go_ret
        exact ⟨rfl, BQ.out⟩
    | false =>
      cases mo with
      | true =>
        have G_mk := Lib.hid (K_mk.out.rg B2.out)
        have G_nw := Lib.hid (K_nw.out.rg B2.out)
        have G_pl := Lib.hid (K_pl.out.rg B2.out)
        have G_wt := Lib.hid (K_wt.out.rg B2.out)
        have G_om := Lib.hid (K_om.out.rg B2.out)
        have G_ex := Lib.hid (K_ex.out.rg B2.out)
        have G_ba := Lib.hid (K_ba.out.rg B2.out)
        have G_bb := Lib.hid (K_bb.out.rg B2.out)
        clear K_mk K_nw K_pl K_wt K_om K_ex K_ba K_bb
        refine wp_region_quiet_below (l := opsL75) (by kernel_rfl) lex75 ?_
        unfold opsL75
        repeat (first | go_big_quiet_step ((first | with_reducible exact G_td.out _ _ | with_reducible exact G_mk.out _ _ | with_reducible exact G_nw.out _ _ | with_reducible exact G_pl.out _ _ | with_reducible exact G_wt.out _ _ | with_reducible exact G_om.out _ _ | with_reducible exact G_ex.out _ _ | with_reducible exact G_ba.out _ _ | with_reducible exact G_bb.out _ _)) | quiet_step ((first | with_reducible exact G_td.out _ _ | with_reducible exact G_mk.out _ _ | with_reducible exact G_nw.out _ _ | with_reducible exact G_pl.out _ _ | with_reducible exact G_wt.out _ _ | with_reducible exact G_om.out _ _ | with_reducible exact G_ex.out _ _ | with_reducible exact G_ba.out _ _ | with_reducible exact G_bb.out _ _)))
        refine wpQuiet_nil ?_
        intro _ hw'
        obtain ⟨⟨dq, osq⟩, hw''⟩ := hw'
        subst hw''
        have BQ := Lib.hid (S2.out.bel.trans ((below_regrown w2 dq osq).mono S2.out.bel.size))
        clear r0 r1 r2
        go_wp2_with fail
        go_ret
        exact ⟨rfl, BQ.out⟩
      | false =>
        cases b10 with
        | false =>
          have G_mk := Lib.hid (K_mk.out.rg B2.out)
          have G_nw := Lib.hid (K_nw.out.rg B2.out)
          have G_pl := Lib.hid (K_pl.out.rg B2.out)
          have G_wt := Lib.hid (K_wt.out.rg B2.out)
          have G_om := Lib.hid (K_om.out.rg B2.out)
          have G_ex := Lib.hid (K_ex.out.rg B2.out)
          have G_ba := Lib.hid (K_ba.out.rg B2.out)
          have G_bb := Lib.hid (K_bb.out.rg B2.out)
          clear K_mk K_nw K_pl K_wt K_om K_ex K_ba K_bb
          refine wp_region_quiet_below (l := opsL75) (by kernel_rfl) lex75 ?_
          unfold opsL75
          repeat (first | go_big_quiet_step ((first | with_reducible exact G_td.out _ _ | with_reducible exact G_mk.out _ _ | with_reducible exact G_nw.out _ _ | with_reducible exact G_pl.out _ _ | with_reducible exact G_wt.out _ _ | with_reducible exact G_om.out _ _ | with_reducible exact G_ex.out _ _ | with_reducible exact G_ba.out _ _ | with_reducible exact G_bb.out _ _)) | quiet_step ((first | with_reducible exact G_td.out _ _ | with_reducible exact G_mk.out _ _ | with_reducible exact G_nw.out _ _ | with_reducible exact G_pl.out _ _ | with_reducible exact G_wt.out _ _ | with_reducible exact G_om.out _ _ | with_reducible exact G_ex.out _ _ | with_reducible exact G_ba.out _ _ | with_reducible exact G_bb.out _ _)))
          refine wpQuiet_nil ?_
          intro _ hw'
          obtain ⟨⟨dq, osq⟩, hw''⟩ := hw'
          subst hw''
          have BQ := Lib.hid (S2.out.bel.trans ((below_regrown w2 dq osq).mono S2.out.bel.size))
          clear r0 r1 r2
          go_wp2_with fail
          go_ret
          exact ⟨rfl, BQ.out⟩
        | true =>
          have G_mk := Lib.hid (K_mk.out.rg B2.out)
          have G_nw := Lib.hid (K_nw.out.rg B2.out)
          have G_pl := Lib.hid (K_pl.out.rg B2.out)
          have G_wt := Lib.hid (K_wt.out.rg B2.out)
          have G_om := Lib.hid (K_om.out.rg B2.out)
          have G_ex := Lib.hid (K_ex.out.rg B2.out)
          have G_ba := Lib.hid (K_ba.out.rg B2.out)
          have G_bb := Lib.hid (K_bb.out.rg B2.out)
          clear K_mk K_nw K_pl K_wt K_om K_ex K_ba K_bb
          refine wp_region_quiet_below (l := opsL75) (by kernel_rfl) lex75 ?_
          unfold opsL75
          repeat (first | go_big_quiet_step ((first | with_reducible exact G_td.out _ _ | with_reducible exact G_mk.out _ _ | with_reducible exact G_nw.out _ _ | with_reducible exact G_pl.out _ _ | with_reducible exact G_wt.out _ _ | with_reducible exact G_om.out _ _ | with_reducible exact G_ex.out _ _ | with_reducible exact G_ba.out _ _ | with_reducible exact G_bb.out _ _)) | quiet_step ((first | with_reducible exact G_td.out _ _ | with_reducible exact G_mk.out _ _ | with_reducible exact G_nw.out _ _ | with_reducible exact G_pl.out _ _ | with_reducible exact G_wt.out _ _ | with_reducible exact G_om.out _ _ | with_reducible exact G_ex.out _ _ | with_reducible exact G_ba.out _ _ | with_reducible exact G_bb.out _ _)))
          refine wpQuiet_nil ?_
          intro _ hw'
          obtain ⟨⟨dq, osq⟩, hw''⟩ := hw'
          subst hw''
          have BQ := Lib.hid (S2.out.bel.trans ((below_regrown w2 dq osq).mono S2.out.bel.size))
          clear r0 r1 r2
          go_wp2_with fail
          go_ret
          exact ⟨rfl, BQ.out⟩
  | true =>
  obtain ⟨hx0, hc7, b, o, hexa, hbl, hc0⟩ := HC.out (by trivial) (by trivial)
  subst hexa hc7
  have hX : ∀ dr os, (grow (redrawn w2 dr) os).cell? ⟨b, o, none⟩ = some (.int .i64 v) := fun dr os => ((B2.out.trans ((below_regrown w2 dr os).mono B2.out.size)).cell (p := ⟨b, o, none⟩) hbl).trans hc0
  clear hc0
  cases hv7 : v == 7 with
  | false =>
    have G_mk := Lib.hid (K_mk.out.rg B2.out)
    have G_nw := Lib.hid (K_nw.out.rg B2.out)
    have G_pl := Lib.hid (K_pl.out.rg B2.out)
    have G_wt := Lib.hid (K_wt.out.rg B2.out)
    have G_om := Lib.hid (K_om.out.rg B2.out)
    have G_ex := Lib.hid (K_ex.out.rg B2.out)
    have G_ba := Lib.hid (K_ba.out.rg B2.out)
    have G_bb := Lib.hid (K_bb.out.rg B2.out)
    clear K_mk K_nw K_pl K_wt K_om K_ex K_ba K_bb
    refine wp_region_quiet_below (l := opsL75) (by kernel_rfl) lex75 ?_
    unfold opsL75
    repeat (first | go_big_quiet_step ((first | with_reducible exact G_td.out _ _ | with_reducible exact G_mk.out _ _ | with_reducible exact G_nw.out _ _ | with_reducible exact G_pl.out _ _ | with_reducible exact G_wt.out _ _ | with_reducible exact G_om.out _ _ | with_reducible exact G_ex.out _ _ | with_reducible exact G_ba.out _ _ | with_reducible exact G_bb.out _ _)) | quiet_step ((first | with_reducible exact G_td.out _ _ | with_reducible exact G_mk.out _ _ | with_reducible exact G_nw.out _ _ | with_reducible exact G_pl.out _ _ | with_reducible exact G_wt.out _ _ | with_reducible exact G_om.out _ _ | with_reducible exact G_ex.out _ _ | with_reducible exact G_ba.out _ _ | with_reducible exact G_bb.out _ _)))
    refine wpQuiet_nil ?_
    intro _ hw'
    obtain ⟨⟨dq, osq⟩, hw''⟩ := hw'
    subst hw''
    have BQ := Lib.hid (S2.out.bel.trans ((below_regrown w2 dq osq).mono S2.out.bel.size))
    clear r0 r1 r2
    go_wp2_with fail
    go_ret
    exact ⟨rfl, BQ.out⟩
  | true =>
  cases b8 with
  | false =>
    have G_mk := Lib.hid (K_mk.out.rg B2.out)
    have G_nw := Lib.hid (K_nw.out.rg B2.out)
    have G_pl := Lib.hid (K_pl.out.rg B2.out)
    have G_wt := Lib.hid (K_wt.out.rg B2.out)
    have G_om := Lib.hid (K_om.out.rg B2.out)
    have G_ex := Lib.hid (K_ex.out.rg B2.out)
    have G_ba := Lib.hid (K_ba.out.rg B2.out)
    have G_bb := Lib.hid (K_bb.out.rg B2.out)
    clear K_mk K_nw K_pl K_wt K_om K_ex K_ba K_bb
    refine wp_region_quiet_below (l := opsL75) (by kernel_rfl) lex75 ?_
    unfold opsL75
    repeat (first | go_big_quiet_step ((first | with_reducible exact G_td.out _ _ | with_reducible exact G_mk.out _ _ | with_reducible exact G_nw.out _ _ | with_reducible exact G_pl.out _ _ | with_reducible exact G_wt.out _ _ | with_reducible exact G_om.out _ _ | with_reducible exact G_ex.out _ _ | with_reducible exact G_ba.out _ _ | with_reducible exact G_bb.out _ _)) | quiet_step ((first | with_reducible exact G_td.out _ _ | with_reducible exact G_mk.out _ _ | with_reducible exact G_nw.out _ _ | with_reducible exact G_pl.out _ _ | with_reducible exact G_wt.out _ _ | with_reducible exact G_om.out _ _ | with_reducible exact G_ex.out _ _ | with_reducible exact G_ba.out _ _ | with_reducible exact G_bb.out _ _)))
    refine wpQuiet_nil ?_
    intro _ hw'
    obtain ⟨⟨dq, osq⟩, hw''⟩ := hw'
    subst hw''
    have BQ := Lib.hid (S2.out.bel.trans ((below_regrown w2 dq osq).mono S2.out.bel.size))
    clear r0 r1 r2
    go_wp2_with fail
    go_ret
    exact ⟨rfl, BQ.out⟩
  | true =>
  cases fo with
  | true =>
    cases b10 with
    | false =>
      have G_mk := Lib.hid (K_mk.out.rg B2.out)
      have G_nw := Lib.hid (K_nw.out.rg B2.out)
      have G_pl := Lib.hid (K_pl.out.rg B2.out)
      have G_wt := Lib.hid (K_wt.out.rg B2.out)
      have G_om := Lib.hid (K_om.out.rg B2.out)
      have G_ex := Lib.hid (K_ex.out.rg B2.out)
      have G_ba := Lib.hid (K_ba.out.rg B2.out)
      have G_bb := Lib.hid (K_bb.out.rg B2.out)
      clear K_mk K_nw K_pl K_wt K_om K_ex K_ba K_bb
      refine wp_region_quiet_below (l := opsL75) (by kernel_rfl) lex75 ?_
      unfold opsL75
      repeat (first | go_big_quiet_step ((first | with_reducible exact G_td.out _ _ | with_reducible exact G_mk.out _ _ | with_reducible exact G_nw.out _ _ | with_reducible exact G_pl.out _ _ | with_reducible exact G_wt.out _ _ | with_reducible exact G_om.out _ _ | with_reducible exact G_ex.out _ _ | with_reducible exact G_ba.out _ _ | with_reducible exact G_bb.out _ _)) | quiet_step ((first | with_reducible exact G_td.out _ _ | with_reducible exact G_mk.out _ _ | with_reducible exact G_nw.out _ _ | with_reducible exact G_pl.out _ _ | with_reducible exact G_wt.out _ _ | with_reducible exact G_om.out _ _ | with_reducible exact G_ex.out _ _ | with_reducible exact G_ba.out _ _ | with_reducible exact G_bb.out _ _)))
      refine wpQuiet_nil ?_
      intro _ hw'
      obtain ⟨⟨dq, osq⟩, hw''⟩ := hw'
      subst hw''
      have BQ := Lib.hid (S2.out.bel.trans ((below_regrown w2 dq osq).mono S2.out.bel.size))
      clear r0 r1 r2
      go_wp2_with fail
      go_ret
      exact ⟨rfl, BQ.out⟩
    | true =>
      have G_mk := Lib.hid (K_mk.out.rg B2.out)
      have G_nw := Lib.hid (K_nw.out.rg B2.out)
      have G_pl := Lib.hid (K_pl.out.rg B2.out)
      have G_wt := Lib.hid (K_wt.out.rg B2.out)
      have G_om := Lib.hid (K_om.out.rg B2.out)
      have G_ex := Lib.hid (K_ex.out.rg B2.out)
      have G_ba := Lib.hid (K_ba.out.rg B2.out)
      have G_bb := Lib.hid (K_bb.out.rg B2.out)
      clear K_mk K_nw K_pl K_wt K_om K_ex K_ba K_bb
      refine wp_region_quiet_below (l := opsL75) (by kernel_rfl) lex75 ?_
      unfold opsL75
      repeat (first | go_big_quiet_step ((first | with_reducible exact G_td.out _ _ | with_reducible exact G_mk.out _ _ | with_reducible exact G_nw.out _ _ | with_reducible exact G_pl.out _ _ | with_reducible exact G_wt.out _ _ | with_reducible exact G_om.out _ _ | with_reducible exact G_ex.out _ _ | with_reducible exact G_ba.out _ _ | with_reducible exact G_bb.out _ _)) | quiet_step ((first | with_reducible exact G_td.out _ _ | with_reducible exact G_mk.out _ _ | with_reducible exact G_nw.out _ _ | with_reducible exact G_pl.out _ _ | with_reducible exact G_wt.out _ _ | with_reducible exact G_om.out _ _ | with_reducible exact G_ex.out _ _ | with_reducible exact G_ba.out _ _ | with_reducible exact G_bb.out _ _)))
      refine wpQuiet_nil ?_
      intro _ hw'
      obtain ⟨⟨dq, osq⟩, hw''⟩ := hw'
      subst hw''
      have BQ := Lib.hid (S2.out.bel.trans ((below_regrown w2 dq osq).mono S2.out.bel.size))
      clear r0 r1 r2
      go_wp2_with fail
      go_ret
      exact ⟨rfl, BQ.out⟩
  | false =>
    cases mo with
    | true =>
      have G_mk := Lib.hid (K_mk.out.rg B2.out)
      have G_nw := Lib.hid (K_nw.out.rg B2.out)
      have G_pl := Lib.hid (K_pl.out.rg B2.out)
      have G_wt := Lib.hid (K_wt.out.rg B2.out)
      have G_om := Lib.hid (K_om.out.rg B2.out)
      have G_ex := Lib.hid (K_ex.out.rg B2.out)
      have G_ba := Lib.hid (K_ba.out.rg B2.out)
      have G_bb := Lib.hid (K_bb.out.rg B2.out)
      clear K_mk K_nw K_pl K_wt K_om K_ex K_ba K_bb
      refine wp_region_quiet_below (l := opsL75) (by kernel_rfl) lex75 ?_
      unfold opsL75
      repeat (first | go_big_quiet_step ((first | with_reducible exact G_td.out _ _ | with_reducible exact G_mk.out _ _ | with_reducible exact G_nw.out _ _ | with_reducible exact G_pl.out _ _ | with_reducible exact G_wt.out _ _ | with_reducible exact G_om.out _ _ | with_reducible exact G_ex.out _ _ | with_reducible exact G_ba.out _ _ | with_reducible exact G_bb.out _ _)) | quiet_step ((first | with_reducible exact G_td.out _ _ | with_reducible exact G_mk.out _ _ | with_reducible exact G_nw.out _ _ | with_reducible exact G_pl.out _ _ | with_reducible exact G_wt.out _ _ | with_reducible exact G_om.out _ _ | with_reducible exact G_ex.out _ _ | with_reducible exact G_ba.out _ _ | with_reducible exact G_bb.out _ _)))
      refine wpQuiet_nil ?_
      intro _ hw'
      obtain ⟨⟨dq, osq⟩, hw''⟩ := hw'
      subst hw''
      have BQ := Lib.hid (S2.out.bel.trans ((below_regrown w2 dq osq).mono S2.out.bel.size))
      clear r0 r1 r2
      go_wp2_with fail
      go_ret
      exact ⟨rfl, BQ.out⟩
    | false =>
      cases b10 with
      | false =>
        have G_mk := Lib.hid (K_mk.out.rg B2.out)
        have G_nw := Lib.hid (K_nw.out.rg B2.out)
        have G_pl := Lib.hid (K_pl.out.rg B2.out)
        have G_wt := Lib.hid (K_wt.out.rg B2.out)
        have G_om := Lib.hid (K_om.out.rg B2.out)
        have G_ex := Lib.hid (K_ex.out.rg B2.out)
        have G_ba := Lib.hid (K_ba.out.rg B2.out)
        have G_bb := Lib.hid (K_bb.out.rg B2.out)
        clear K_mk K_nw K_pl K_wt K_om K_ex K_ba K_bb
        refine wp_region_quiet_below (l := opsL75) (by kernel_rfl) lex75 ?_
        unfold opsL75
        repeat (first | go_big_quiet_step ((first | with_reducible exact G_td.out _ _ | with_reducible exact G_mk.out _ _ | with_reducible exact G_nw.out _ _ | with_reducible exact G_pl.out _ _ | with_reducible exact G_wt.out _ _ | with_reducible exact G_om.out _ _ | with_reducible exact G_ex.out _ _ | with_reducible exact G_ba.out _ _ | with_reducible exact G_bb.out _ _)) | quiet_step ((first | with_reducible exact G_td.out _ _ | with_reducible exact G_mk.out _ _ | with_reducible exact G_nw.out _ _ | with_reducible exact G_pl.out _ _ | with_reducible exact G_wt.out _ _ | with_reducible exact G_om.out _ _ | with_reducible exact G_ex.out _ _ | with_reducible exact G_ba.out _ _ | with_reducible exact G_bb.out _ _)))
        refine wpQuiet_nil ?_
        intro _ hw'
        obtain ⟨⟨dq, osq⟩, hw''⟩ := hw'
        subst hw''
        have BQ := Lib.hid (S2.out.bel.trans ((below_regrown w2 dq osq).mono S2.out.bel.size))
        clear r0 r1 r2
        go_wp2_with fail
        go_ret
        exact ⟨rfl, BQ.out⟩
      | true =>
        have G_mk := Lib.hid (K_mk.out.rg B2.out)
        have G_nw := Lib.hid (K_nw.out.rg B2.out)
        have G_pl := Lib.hid (K_pl.out.rg B2.out)
        have G_wt := Lib.hid (K_wt.out.rg B2.out)
        have G_om := Lib.hid (K_om.out.rg B2.out)
        have G_ex := Lib.hid (K_ex.out.rg B2.out)
        have G_ba := Lib.hid (K_ba.out.rg B2.out)
        have G_bb := Lib.hid (K_bb.out.rg B2.out)
        clear K_mk K_nw K_pl K_wt K_om K_ex K_ba K_bb
        refine wp_region_quiet_below (l := opsL75) (by kernel_rfl) lex75 ?_
        unfold opsL75
        repeat (first | go_big_quiet_step ((first | with_reducible exact G_td.out _ _ | with_reducible exact G_mk.out _ _ | with_reducible exact G_nw.out _ _ | with_reducible exact G_pl.out _ _ | with_reducible exact G_wt.out _ _ | with_reducible exact G_om.out _ _ | with_reducible exact G_ex.out _ _ | with_reducible exact G_ba.out _ _ | with_reducible exact G_bb.out _ _)) | quiet_step ((first | with_reducible exact G_td.out _ _ | with_reducible exact G_mk.out _ _ | with_reducible exact G_nw.out _ _ | with_reducible exact G_pl.out _ _ | with_reducible exact G_wt.out _ _ | with_reducible exact G_om.out _ _ | with_reducible exact G_ex.out _ _ | with_reducible exact G_ba.out _ _ | with_reducible exact G_bb.out _ _)))
        refine wpQuiet_nil ?_
        intro _ hw'
        obtain ⟨⟨dq, osq⟩, hw''⟩ := hw'
        subst hw''
        have BQ := Lib.hid (S2.out.bel.trans ((below_regrown w2 dq osq).mono S2.out.bel.size))
        clear r0 r1 r2
        go_wp2_with fail
        go_ret
        exact ⟨rfl, BQ.out⟩
end Go.Proofs.YtciijpahjjoppaaGreat
end
section
namespace Go.Proofs.YtciijpahjjoppaaGreat
open Go.RowKit Go.Deep Go.Maps Go.Sort
set_option linter.unusedVariables false

set_option maxRecDepth 100000 in
set_option maxHeartbeats 32000000 in
theorem stmt_b1 (w0 : World) (d : Int) (ar : Nat) (har : ar < 48) (m0 m1 : List (List D)) (op : Int) (nm : ByteArray) (pop pn : Int) (pnm pfd : ByteArray) (pl ex : List (List D)) (mo : Bool) (bd el en e2 : List (List D)) (m0a : Option Addr) (m0c : Nat) (m1a : Option Addr) (m1c : Nat) (pla : Option Addr) (plc : Nat) (exa : Option Addr) (exc : Nat) (bda : Option Addr) (bdc : Nat) (ela : Option Addr) (elc : Nat) (ena : Option Addr) (enc : Nat) (e2a : Option Addr) (e2c : Nat) (fp fc fb fo b10 b8 c7 : Bool) (fl fm v : Int)
    (h_sf : ∀ W, Calls Tryz.prog 112 #[.int .i64 op] W fun e W' => e = .returned (.tuple #[.agg #[.bool fp, .int .i64 fl, .int .i64 fm, .bool fc, .bool fb, .bool fo, .bool false], .bool true]) ∧ Below W.heap.size W W')
    (h_mk : Says w0 105 #[.agg #[.int .i64 d, .int .i64 ar], .agg #[.slice m0a m0.length m0c, .slice m1a m1.length m1c]] (.bool true))
    (h_nw : Says w0 63 #[.agg #[.int .i64 d, .int .i64 ar], .bool false, .string nm] (.bool true))
    (h_pl : Says w0 113 #[.agg #[.int .i64 d, .int .i64 ar], .bool fp, .agg #[.int .i64 pop, .int .i64 pn, .string pnm, .string pfd, .slice pla pl.length plc]] (.bool true))
    (h_wt : Says w0 100 #[.int .i64 ex.length, .int .i64 fl, .int .i64 fm] (.bool true))
    (h_om : Says w0 114 #[.agg #[.int .i64 d, .int .i64 ar]] (.agg #[.int .i64 d, .int .i64 0]))
    (h_ex : Says w0 64 #[.slice exa ex.length exc, .func (.func 25) #[.agg #[.int .i64 d, .int .i64 0]] #[]] (.bool true))
    (h_ba : Says w0 115 #[.agg #[.int .i64 d, .int .i64 ar], .bool fb, .slice bda bd.length bdc, .slice ena en.length enc] (.bool b8))
    (h_bb : Says w0 115 #[.agg #[.int .i64 d, .int .i64 ar], .bool mo, .slice ela el.length elc, .slice e2a e2.length e2c] (.bool b10))
    (h_td : Says w0 60 #[.agg #[.int .i64 d, .int .i64 ar]] (.bool false))
    (h_c : fc = true → true = true → 0 < ex.length ∧ c7 = (v == 7) ∧ ∃ b o, exa = some ⟨b, o, none⟩ ∧ b < w0.heap.size ∧ w0.cell? ⟨b, o, none⟩ = some (.int .i64 v)) (hxl : ex.length ≤ 9223372036854775807) (w : World) (hW : Below w0.heap.size w0 w) :
    Calls Tryz.prog 75 #[.agg #[.int .i64 d, .int .i64 ar], .agg #[.slice m0a m0.length m0c, .slice m1a m1.length m1c, .int .i64 op, .string nm, .int .i64 pop, .int .i64 pn, .string pnm, .string pfd, .slice pla pl.length plc, .slice exa ex.length exc, .bool false, .bool mo, .slice bda bd.length bdc, .slice ela el.length elc, .slice ena en.length enc, .slice e2a e2.length e2c]] w fun e w' => e = .returned (.bool (true && (true && ((false || !false) && (true && (true && (true && ((!fc || c7) && (b8 && ((fo || !mo) && b10)))))))))) ∧ Below w.heap.size w w' := by
  have K_mk := Lib.hid h_mk
  have K_nw := Lib.hid h_nw
  have K_pl := Lib.hid h_pl
  have K_wt := Lib.hid h_wt
  have K_om := Lib.hid h_om
  have K_ex := Lib.hid h_ex
  have K_ba := Lib.hid h_ba
  have K_bb := Lib.hid h_bb
  have K_td := Lib.hid h_td
  have HC := Lib.hid h_c
  have HW := Lib.hid hW
  have S0 := Lib.hid (Bx2.start w (.cells #[.int .i64 d, .int .i64 ar] 51) (.cells #[.slice m0a m0.length m0c, .slice m1a m1.length m1c, .int .i64 op, .string nm, .int .i64 pop, .int .i64 pn, .string pnm, .string pfd, .slice pla pl.length plc, .slice exa ex.length exc, .bool false, .bool mo, .slice bda bd.length bdc, .slice ela el.length elc, .slice ena en.length enc, .slice e2a e2.length e2c] 84))
  clear h_c hW h_td h_mk h_nw h_pl h_wt h_om h_ex h_ba h_bb
  go_enter Tryz.func75, Tryz.ntmps75
  go_wp2_with fail
  refine (h_sf _).mono ?_
  rintro e w1 ⟨rfl, b1x⟩
  have S1 := Lib.hid (S0.out.step b1x)
  have S2 := Lib.hid (S1.out.third (.cells #[.bool fp, .int .i64 fl, .int .i64 fm, .bool fc, .bool fb, .bool fo, .bool false] 155))
  clear b1x h_sf
  go_wp2_with fail
  obtain ⟨w2, hw2⟩ : ∃ w2, w2 = w1.alloc (.cells #[.bool fp, .int .i64 fl, .int .i64 fm, .bool fc, .bool fb, .bool fo, .bool false] 155) := ⟨_, rfl⟩
  rw [← hw2] at S2 ⊢
  have HSZ := Lib.hid hw2
  clear hw2
  have r0 := cellsRg S2.out.a
  have r1 := cellsRg S2.out.b
  have r2 := cellsRg S2.out.c
  have B2 := Lib.hid (S2.out.on HW.out)
  have G_td := Lib.hid (K_td.out.rg B2.out)
  cases fc with
  | false =>
    cases b8 with
    | false =>
      have G_mk := Lib.hid (K_mk.out.rg B2.out)
      have G_nw := Lib.hid (K_nw.out.rg B2.out)
      have G_pl := Lib.hid (K_pl.out.rg B2.out)
      have G_wt := Lib.hid (K_wt.out.rg B2.out)
      have G_om := Lib.hid (K_om.out.rg B2.out)
      have G_ex := Lib.hid (K_ex.out.rg B2.out)
      have G_ba := Lib.hid (K_ba.out.rg B2.out)
      have G_bb := Lib.hid (K_bb.out.rg B2.out)
      clear K_mk K_nw K_pl K_wt K_om K_ex K_ba K_bb
      refine wp_region_quiet_below (l := opsL75) (by kernel_rfl) lex75 ?_
      unfold opsL75
      repeat (first | go_big_quiet_step ((first | with_reducible exact G_td.out _ _ | with_reducible exact G_mk.out _ _ | with_reducible exact G_nw.out _ _ | with_reducible exact G_pl.out _ _ | with_reducible exact G_wt.out _ _ | with_reducible exact G_om.out _ _ | with_reducible exact G_ex.out _ _ | with_reducible exact G_ba.out _ _ | with_reducible exact G_bb.out _ _)) | quiet_step ((first | with_reducible exact G_td.out _ _ | with_reducible exact G_mk.out _ _ | with_reducible exact G_nw.out _ _ | with_reducible exact G_pl.out _ _ | with_reducible exact G_wt.out _ _ | with_reducible exact G_om.out _ _ | with_reducible exact G_ex.out _ _ | with_reducible exact G_ba.out _ _ | with_reducible exact G_bb.out _ _)))
      refine wpQuiet_nil ?_
      intro _ hw'
      obtain ⟨⟨dq, osq⟩, hw''⟩ := hw'
      subst hw''
      have BQ := Lib.hid (S2.out.bel.trans ((below_regrown w2 dq osq).mono S2.out.bel.size))
      clear r0 r1 r2
      go_wp2_with fail
      go_ret
      exact ⟨rfl, BQ.out⟩
    | true =>
    cases fo with
    | true =>
      cases b10 with
      | false =>
        have G_mk := Lib.hid (K_mk.out.rg B2.out)
        have G_nw := Lib.hid (K_nw.out.rg B2.out)
        have G_pl := Lib.hid (K_pl.out.rg B2.out)
        have G_wt := Lib.hid (K_wt.out.rg B2.out)
        have G_om := Lib.hid (K_om.out.rg B2.out)
        have G_ex := Lib.hid (K_ex.out.rg B2.out)
        have G_ba := Lib.hid (K_ba.out.rg B2.out)
        have G_bb := Lib.hid (K_bb.out.rg B2.out)
        clear K_mk K_nw K_pl K_wt K_om K_ex K_ba K_bb
        refine wp_region_quiet_below (l := opsL75) (by kernel_rfl) lex75 ?_
        unfold opsL75
        repeat (first | go_big_quiet_step ((first | with_reducible exact G_td.out _ _ | with_reducible exact G_mk.out _ _ | with_reducible exact G_nw.out _ _ | with_reducible exact G_pl.out _ _ | with_reducible exact G_wt.out _ _ | with_reducible exact G_om.out _ _ | with_reducible exact G_ex.out _ _ | with_reducible exact G_ba.out _ _ | with_reducible exact G_bb.out _ _)) | quiet_step ((first | with_reducible exact G_td.out _ _ | with_reducible exact G_mk.out _ _ | with_reducible exact G_nw.out _ _ | with_reducible exact G_pl.out _ _ | with_reducible exact G_wt.out _ _ | with_reducible exact G_om.out _ _ | with_reducible exact G_ex.out _ _ | with_reducible exact G_ba.out _ _ | with_reducible exact G_bb.out _ _)))
        refine wpQuiet_nil ?_
        intro _ hw'
        obtain ⟨⟨dq, osq⟩, hw''⟩ := hw'
        subst hw''
        have BQ := Lib.hid (S2.out.bel.trans ((below_regrown w2 dq osq).mono S2.out.bel.size))
        clear r0 r1 r2
        go_wp2_with fail
        go_ret
        exact ⟨rfl, BQ.out⟩
      | true =>
        have G_mk := Lib.hid (K_mk.out.rg B2.out)
        have G_nw := Lib.hid (K_nw.out.rg B2.out)
        have G_pl := Lib.hid (K_pl.out.rg B2.out)
        have G_wt := Lib.hid (K_wt.out.rg B2.out)
        have G_om := Lib.hid (K_om.out.rg B2.out)
        have G_ex := Lib.hid (K_ex.out.rg B2.out)
        have G_ba := Lib.hid (K_ba.out.rg B2.out)
        have G_bb := Lib.hid (K_bb.out.rg B2.out)
        clear K_mk K_nw K_pl K_wt K_om K_ex K_ba K_bb
        refine wp_region_quiet_below (l := opsL75) (by kernel_rfl) lex75 ?_
        unfold opsL75
        repeat (first | go_big_quiet_step ((first | with_reducible exact G_td.out _ _ | with_reducible exact G_mk.out _ _ | with_reducible exact G_nw.out _ _ | with_reducible exact G_pl.out _ _ | with_reducible exact G_wt.out _ _ | with_reducible exact G_om.out _ _ | with_reducible exact G_ex.out _ _ | with_reducible exact G_ba.out _ _ | with_reducible exact G_bb.out _ _)) | quiet_step ((first | with_reducible exact G_td.out _ _ | with_reducible exact G_mk.out _ _ | with_reducible exact G_nw.out _ _ | with_reducible exact G_pl.out _ _ | with_reducible exact G_wt.out _ _ | with_reducible exact G_om.out _ _ | with_reducible exact G_ex.out _ _ | with_reducible exact G_ba.out _ _ | with_reducible exact G_bb.out _ _)))
        refine wpQuiet_nil ?_
        intro _ hw'
        obtain ⟨⟨dq, osq⟩, hw''⟩ := hw'
        subst hw''
        have BQ := Lib.hid (S2.out.bel.trans ((below_regrown w2 dq osq).mono S2.out.bel.size))
        clear r0 r1 r2
        go_wp2_with fail
        go_ret
        exact ⟨rfl, BQ.out⟩
    | false =>
      cases mo with
      | true =>
        have G_mk := Lib.hid (K_mk.out.rg B2.out)
        have G_nw := Lib.hid (K_nw.out.rg B2.out)
        have G_pl := Lib.hid (K_pl.out.rg B2.out)
        have G_wt := Lib.hid (K_wt.out.rg B2.out)
        have G_om := Lib.hid (K_om.out.rg B2.out)
        have G_ex := Lib.hid (K_ex.out.rg B2.out)
        have G_ba := Lib.hid (K_ba.out.rg B2.out)
        have G_bb := Lib.hid (K_bb.out.rg B2.out)
        clear K_mk K_nw K_pl K_wt K_om K_ex K_ba K_bb
        refine wp_region_quiet_below (l := opsL75) (by kernel_rfl) lex75 ?_
        unfold opsL75
        repeat (first | go_big_quiet_step ((first | with_reducible exact G_td.out _ _ | with_reducible exact G_mk.out _ _ | with_reducible exact G_nw.out _ _ | with_reducible exact G_pl.out _ _ | with_reducible exact G_wt.out _ _ | with_reducible exact G_om.out _ _ | with_reducible exact G_ex.out _ _ | with_reducible exact G_ba.out _ _ | with_reducible exact G_bb.out _ _)) | quiet_step ((first | with_reducible exact G_td.out _ _ | with_reducible exact G_mk.out _ _ | with_reducible exact G_nw.out _ _ | with_reducible exact G_pl.out _ _ | with_reducible exact G_wt.out _ _ | with_reducible exact G_om.out _ _ | with_reducible exact G_ex.out _ _ | with_reducible exact G_ba.out _ _ | with_reducible exact G_bb.out _ _)))
        refine wpQuiet_nil ?_
        intro _ hw'
        obtain ⟨⟨dq, osq⟩, hw''⟩ := hw'
        subst hw''
        have BQ := Lib.hid (S2.out.bel.trans ((below_regrown w2 dq osq).mono S2.out.bel.size))
        clear r0 r1 r2
        go_wp2_with fail
        go_ret
        exact ⟨rfl, BQ.out⟩
      | false =>
        cases b10 with
        | false =>
          have G_mk := Lib.hid (K_mk.out.rg B2.out)
          have G_nw := Lib.hid (K_nw.out.rg B2.out)
          have G_pl := Lib.hid (K_pl.out.rg B2.out)
          have G_wt := Lib.hid (K_wt.out.rg B2.out)
          have G_om := Lib.hid (K_om.out.rg B2.out)
          have G_ex := Lib.hid (K_ex.out.rg B2.out)
          have G_ba := Lib.hid (K_ba.out.rg B2.out)
          have G_bb := Lib.hid (K_bb.out.rg B2.out)
          clear K_mk K_nw K_pl K_wt K_om K_ex K_ba K_bb
          refine wp_region_quiet_below (l := opsL75) (by kernel_rfl) lex75 ?_
          unfold opsL75
          repeat (first | go_big_quiet_step ((first | with_reducible exact G_td.out _ _ | with_reducible exact G_mk.out _ _ | with_reducible exact G_nw.out _ _ | with_reducible exact G_pl.out _ _ | with_reducible exact G_wt.out _ _ | with_reducible exact G_om.out _ _ | with_reducible exact G_ex.out _ _ | with_reducible exact G_ba.out _ _ | with_reducible exact G_bb.out _ _)) | quiet_step ((first | with_reducible exact G_td.out _ _ | with_reducible exact G_mk.out _ _ | with_reducible exact G_nw.out _ _ | with_reducible exact G_pl.out _ _ | with_reducible exact G_wt.out _ _ | with_reducible exact G_om.out _ _ | with_reducible exact G_ex.out _ _ | with_reducible exact G_ba.out _ _ | with_reducible exact G_bb.out _ _)))
          refine wpQuiet_nil ?_
          intro _ hw'
          obtain ⟨⟨dq, osq⟩, hw''⟩ := hw'
          subst hw''
          have BQ := Lib.hid (S2.out.bel.trans ((below_regrown w2 dq osq).mono S2.out.bel.size))
          clear r0 r1 r2
          go_wp2_with fail
          go_ret
          exact ⟨rfl, BQ.out⟩
        | true =>
          have G_mk := Lib.hid (K_mk.out.rg B2.out)
          have G_nw := Lib.hid (K_nw.out.rg B2.out)
          have G_pl := Lib.hid (K_pl.out.rg B2.out)
          have G_wt := Lib.hid (K_wt.out.rg B2.out)
          have G_om := Lib.hid (K_om.out.rg B2.out)
          have G_ex := Lib.hid (K_ex.out.rg B2.out)
          have G_ba := Lib.hid (K_ba.out.rg B2.out)
          have G_bb := Lib.hid (K_bb.out.rg B2.out)
          clear K_mk K_nw K_pl K_wt K_om K_ex K_ba K_bb
          refine wp_region_quiet_below (l := opsL75) (by kernel_rfl) lex75 ?_
          unfold opsL75
          repeat (first | go_big_quiet_step ((first | with_reducible exact G_td.out _ _ | with_reducible exact G_mk.out _ _ | with_reducible exact G_nw.out _ _ | with_reducible exact G_pl.out _ _ | with_reducible exact G_wt.out _ _ | with_reducible exact G_om.out _ _ | with_reducible exact G_ex.out _ _ | with_reducible exact G_ba.out _ _ | with_reducible exact G_bb.out _ _)) | quiet_step ((first | with_reducible exact G_td.out _ _ | with_reducible exact G_mk.out _ _ | with_reducible exact G_nw.out _ _ | with_reducible exact G_pl.out _ _ | with_reducible exact G_wt.out _ _ | with_reducible exact G_om.out _ _ | with_reducible exact G_ex.out _ _ | with_reducible exact G_ba.out _ _ | with_reducible exact G_bb.out _ _)))
          refine wpQuiet_nil ?_
          intro _ hw'
          obtain ⟨⟨dq, osq⟩, hw''⟩ := hw'
          subst hw''
          have BQ := Lib.hid (S2.out.bel.trans ((below_regrown w2 dq osq).mono S2.out.bel.size))
          clear r0 r1 r2
          go_wp2_with fail
          go_ret
          exact ⟨rfl, BQ.out⟩
  | true =>
  obtain ⟨hx0, hc7, b, o, hexa, hbl, hc0⟩ := HC.out (by trivial) (by trivial)
  subst hexa hc7
  have hX : ∀ dr os, (grow (redrawn w2 dr) os).cell? ⟨b, o, none⟩ = some (.int .i64 v) := fun dr os => ((B2.out.trans ((below_regrown w2 dr os).mono B2.out.size)).cell (p := ⟨b, o, none⟩) hbl).trans hc0
  clear hc0
  cases hv7 : v == 7 with
  | false =>
    have G_mk := Lib.hid (K_mk.out.rg B2.out)
    have G_nw := Lib.hid (K_nw.out.rg B2.out)
    have G_pl := Lib.hid (K_pl.out.rg B2.out)
    have G_wt := Lib.hid (K_wt.out.rg B2.out)
    have G_om := Lib.hid (K_om.out.rg B2.out)
    have G_ex := Lib.hid (K_ex.out.rg B2.out)
    have G_ba := Lib.hid (K_ba.out.rg B2.out)
    have G_bb := Lib.hid (K_bb.out.rg B2.out)
    clear K_mk K_nw K_pl K_wt K_om K_ex K_ba K_bb
    refine wp_region_quiet_below (l := opsL75) (by kernel_rfl) lex75 ?_
    unfold opsL75
    repeat (first | go_big_quiet_step ((first | with_reducible exact G_td.out _ _ | with_reducible exact G_mk.out _ _ | with_reducible exact G_nw.out _ _ | with_reducible exact G_pl.out _ _ | with_reducible exact G_wt.out _ _ | with_reducible exact G_om.out _ _ | with_reducible exact G_ex.out _ _ | with_reducible exact G_ba.out _ _ | with_reducible exact G_bb.out _ _)) | quiet_step ((first | with_reducible exact G_td.out _ _ | with_reducible exact G_mk.out _ _ | with_reducible exact G_nw.out _ _ | with_reducible exact G_pl.out _ _ | with_reducible exact G_wt.out _ _ | with_reducible exact G_om.out _ _ | with_reducible exact G_ex.out _ _ | with_reducible exact G_ba.out _ _ | with_reducible exact G_bb.out _ _)))
    refine wpQuiet_nil ?_
    intro _ hw'
    obtain ⟨⟨dq, osq⟩, hw''⟩ := hw'
    subst hw''
    have BQ := Lib.hid (S2.out.bel.trans ((below_regrown w2 dq osq).mono S2.out.bel.size))
    clear r0 r1 r2
    go_wp2_with fail
    go_ret
    exact ⟨rfl, BQ.out⟩
  | true =>
  cases b8 with
  | false =>
    have G_mk := Lib.hid (K_mk.out.rg B2.out)
    have G_nw := Lib.hid (K_nw.out.rg B2.out)
    have G_pl := Lib.hid (K_pl.out.rg B2.out)
    have G_wt := Lib.hid (K_wt.out.rg B2.out)
    have G_om := Lib.hid (K_om.out.rg B2.out)
    have G_ex := Lib.hid (K_ex.out.rg B2.out)
    have G_ba := Lib.hid (K_ba.out.rg B2.out)
    have G_bb := Lib.hid (K_bb.out.rg B2.out)
    clear K_mk K_nw K_pl K_wt K_om K_ex K_ba K_bb
    refine wp_region_quiet_below (l := opsL75) (by kernel_rfl) lex75 ?_
    unfold opsL75
    repeat (first | go_big_quiet_step ((first | with_reducible exact G_td.out _ _ | with_reducible exact G_mk.out _ _ | with_reducible exact G_nw.out _ _ | with_reducible exact G_pl.out _ _ | with_reducible exact G_wt.out _ _ | with_reducible exact G_om.out _ _ | with_reducible exact G_ex.out _ _ | with_reducible exact G_ba.out _ _ | with_reducible exact G_bb.out _ _)) | quiet_step ((first | with_reducible exact G_td.out _ _ | with_reducible exact G_mk.out _ _ | with_reducible exact G_nw.out _ _ | with_reducible exact G_pl.out _ _ | with_reducible exact G_wt.out _ _ | with_reducible exact G_om.out _ _ | with_reducible exact G_ex.out _ _ | with_reducible exact G_ba.out _ _ | with_reducible exact G_bb.out _ _)))
    refine wpQuiet_nil ?_
    intro _ hw'
    obtain ⟨⟨dq, osq⟩, hw''⟩ := hw'
    subst hw''
    have BQ := Lib.hid (S2.out.bel.trans ((below_regrown w2 dq osq).mono S2.out.bel.size))
    clear r0 r1 r2
    go_wp2_with fail
    go_ret
    exact ⟨rfl, BQ.out⟩
  | true =>
  cases fo with
  | true =>
    cases b10 with
    | false =>
      have G_mk := Lib.hid (K_mk.out.rg B2.out)
      have G_nw := Lib.hid (K_nw.out.rg B2.out)
      have G_pl := Lib.hid (K_pl.out.rg B2.out)
      have G_wt := Lib.hid (K_wt.out.rg B2.out)
      have G_om := Lib.hid (K_om.out.rg B2.out)
      have G_ex := Lib.hid (K_ex.out.rg B2.out)
      have G_ba := Lib.hid (K_ba.out.rg B2.out)
      have G_bb := Lib.hid (K_bb.out.rg B2.out)
      clear K_mk K_nw K_pl K_wt K_om K_ex K_ba K_bb
      refine wp_region_quiet_below (l := opsL75) (by kernel_rfl) lex75 ?_
      unfold opsL75
      repeat (first | go_big_quiet_step ((first | with_reducible exact G_td.out _ _ | with_reducible exact G_mk.out _ _ | with_reducible exact G_nw.out _ _ | with_reducible exact G_pl.out _ _ | with_reducible exact G_wt.out _ _ | with_reducible exact G_om.out _ _ | with_reducible exact G_ex.out _ _ | with_reducible exact G_ba.out _ _ | with_reducible exact G_bb.out _ _)) | quiet_step ((first | with_reducible exact G_td.out _ _ | with_reducible exact G_mk.out _ _ | with_reducible exact G_nw.out _ _ | with_reducible exact G_pl.out _ _ | with_reducible exact G_wt.out _ _ | with_reducible exact G_om.out _ _ | with_reducible exact G_ex.out _ _ | with_reducible exact G_ba.out _ _ | with_reducible exact G_bb.out _ _)))
      refine wpQuiet_nil ?_
      intro _ hw'
      obtain ⟨⟨dq, osq⟩, hw''⟩ := hw'
      subst hw''
      have BQ := Lib.hid (S2.out.bel.trans ((below_regrown w2 dq osq).mono S2.out.bel.size))
      clear r0 r1 r2
      go_wp2_with fail
      go_ret
      exact ⟨rfl, BQ.out⟩
    | true =>
      have G_mk := Lib.hid (K_mk.out.rg B2.out)
      have G_nw := Lib.hid (K_nw.out.rg B2.out)
      have G_pl := Lib.hid (K_pl.out.rg B2.out)
      have G_wt := Lib.hid (K_wt.out.rg B2.out)
      have G_om := Lib.hid (K_om.out.rg B2.out)
      have G_ex := Lib.hid (K_ex.out.rg B2.out)
      have G_ba := Lib.hid (K_ba.out.rg B2.out)
      have G_bb := Lib.hid (K_bb.out.rg B2.out)
      clear K_mk K_nw K_pl K_wt K_om K_ex K_ba K_bb
      refine wp_region_quiet_below (l := opsL75) (by kernel_rfl) lex75 ?_
      unfold opsL75
      repeat (first | go_big_quiet_step ((first | with_reducible exact G_td.out _ _ | with_reducible exact G_mk.out _ _ | with_reducible exact G_nw.out _ _ | with_reducible exact G_pl.out _ _ | with_reducible exact G_wt.out _ _ | with_reducible exact G_om.out _ _ | with_reducible exact G_ex.out _ _ | with_reducible exact G_ba.out _ _ | with_reducible exact G_bb.out _ _)) | quiet_step ((first | with_reducible exact G_td.out _ _ | with_reducible exact G_mk.out _ _ | with_reducible exact G_nw.out _ _ | with_reducible exact G_pl.out _ _ | with_reducible exact G_wt.out _ _ | with_reducible exact G_om.out _ _ | with_reducible exact G_ex.out _ _ | with_reducible exact G_ba.out _ _ | with_reducible exact G_bb.out _ _)))
      refine wpQuiet_nil ?_
      intro _ hw'
      obtain ⟨⟨dq, osq⟩, hw''⟩ := hw'
      subst hw''
      have BQ := Lib.hid (S2.out.bel.trans ((below_regrown w2 dq osq).mono S2.out.bel.size))
      clear r0 r1 r2
      go_wp2_with fail
      go_ret
      exact ⟨rfl, BQ.out⟩
  | false =>
    cases mo with
    | true =>
      have G_mk := Lib.hid (K_mk.out.rg B2.out)
      have G_nw := Lib.hid (K_nw.out.rg B2.out)
      have G_pl := Lib.hid (K_pl.out.rg B2.out)
      have G_wt := Lib.hid (K_wt.out.rg B2.out)
      have G_om := Lib.hid (K_om.out.rg B2.out)
      have G_ex := Lib.hid (K_ex.out.rg B2.out)
      have G_ba := Lib.hid (K_ba.out.rg B2.out)
      have G_bb := Lib.hid (K_bb.out.rg B2.out)
      clear K_mk K_nw K_pl K_wt K_om K_ex K_ba K_bb
      refine wp_region_quiet_below (l := opsL75) (by kernel_rfl) lex75 ?_
      unfold opsL75
      repeat (first | go_big_quiet_step ((first | with_reducible exact G_td.out _ _ | with_reducible exact G_mk.out _ _ | with_reducible exact G_nw.out _ _ | with_reducible exact G_pl.out _ _ | with_reducible exact G_wt.out _ _ | with_reducible exact G_om.out _ _ | with_reducible exact G_ex.out _ _ | with_reducible exact G_ba.out _ _ | with_reducible exact G_bb.out _ _)) | quiet_step ((first | with_reducible exact G_td.out _ _ | with_reducible exact G_mk.out _ _ | with_reducible exact G_nw.out _ _ | with_reducible exact G_pl.out _ _ | with_reducible exact G_wt.out _ _ | with_reducible exact G_om.out _ _ | with_reducible exact G_ex.out _ _ | with_reducible exact G_ba.out _ _ | with_reducible exact G_bb.out _ _)))
      refine wpQuiet_nil ?_
      intro _ hw'
      obtain ⟨⟨dq, osq⟩, hw''⟩ := hw'
      subst hw''
      have BQ := Lib.hid (S2.out.bel.trans ((below_regrown w2 dq osq).mono S2.out.bel.size))
      clear r0 r1 r2
      go_wp2_with fail
      go_ret
      exact ⟨rfl, BQ.out⟩
    | false =>
      cases b10 with
      | false =>
        have G_mk := Lib.hid (K_mk.out.rg B2.out)
        have G_nw := Lib.hid (K_nw.out.rg B2.out)
        have G_pl := Lib.hid (K_pl.out.rg B2.out)
        have G_wt := Lib.hid (K_wt.out.rg B2.out)
        have G_om := Lib.hid (K_om.out.rg B2.out)
        have G_ex := Lib.hid (K_ex.out.rg B2.out)
        have G_ba := Lib.hid (K_ba.out.rg B2.out)
        have G_bb := Lib.hid (K_bb.out.rg B2.out)
        clear K_mk K_nw K_pl K_wt K_om K_ex K_ba K_bb
        refine wp_region_quiet_below (l := opsL75) (by kernel_rfl) lex75 ?_
        unfold opsL75
        repeat (first | go_big_quiet_step ((first | with_reducible exact G_td.out _ _ | with_reducible exact G_mk.out _ _ | with_reducible exact G_nw.out _ _ | with_reducible exact G_pl.out _ _ | with_reducible exact G_wt.out _ _ | with_reducible exact G_om.out _ _ | with_reducible exact G_ex.out _ _ | with_reducible exact G_ba.out _ _ | with_reducible exact G_bb.out _ _)) | quiet_step ((first | with_reducible exact G_td.out _ _ | with_reducible exact G_mk.out _ _ | with_reducible exact G_nw.out _ _ | with_reducible exact G_pl.out _ _ | with_reducible exact G_wt.out _ _ | with_reducible exact G_om.out _ _ | with_reducible exact G_ex.out _ _ | with_reducible exact G_ba.out _ _ | with_reducible exact G_bb.out _ _)))
        refine wpQuiet_nil ?_
        intro _ hw'
        obtain ⟨⟨dq, osq⟩, hw''⟩ := hw'
        subst hw''
        have BQ := Lib.hid (S2.out.bel.trans ((below_regrown w2 dq osq).mono S2.out.bel.size))
        clear r0 r1 r2
        go_wp2_with fail
        go_ret
        exact ⟨rfl, BQ.out⟩
      | true =>
        have G_mk := Lib.hid (K_mk.out.rg B2.out)
        have G_nw := Lib.hid (K_nw.out.rg B2.out)
        have G_pl := Lib.hid (K_pl.out.rg B2.out)
        have G_wt := Lib.hid (K_wt.out.rg B2.out)
        have G_om := Lib.hid (K_om.out.rg B2.out)
        have G_ex := Lib.hid (K_ex.out.rg B2.out)
        have G_ba := Lib.hid (K_ba.out.rg B2.out)
        have G_bb := Lib.hid (K_bb.out.rg B2.out)
        clear K_mk K_nw K_pl K_wt K_om K_ex K_ba K_bb
        refine wp_region_quiet_below (l := opsL75) (by kernel_rfl) lex75 ?_
        unfold opsL75
        repeat (first | go_big_quiet_step ((first | with_reducible exact G_td.out _ _ | with_reducible exact G_mk.out _ _ | with_reducible exact G_nw.out _ _ | with_reducible exact G_pl.out _ _ | with_reducible exact G_wt.out _ _ | with_reducible exact G_om.out _ _ | with_reducible exact G_ex.out _ _ | with_reducible exact G_ba.out _ _ | with_reducible exact G_bb.out _ _)) | quiet_step ((first | with_reducible exact G_td.out _ _ | with_reducible exact G_mk.out _ _ | with_reducible exact G_nw.out _ _ | with_reducible exact G_pl.out _ _ | with_reducible exact G_wt.out _ _ | with_reducible exact G_om.out _ _ | with_reducible exact G_ex.out _ _ | with_reducible exact G_ba.out _ _ | with_reducible exact G_bb.out _ _)))
        refine wpQuiet_nil ?_
        intro _ hw'
        obtain ⟨⟨dq, osq⟩, hw''⟩ := hw'
        subst hw''
        have BQ := Lib.hid (S2.out.bel.trans ((below_regrown w2 dq osq).mono S2.out.bel.size))
        clear r0 r1 r2
        go_wp2_with fail
        go_ret
        exact ⟨rfl, BQ.out⟩
end Go.Proofs.YtciijpahjjoppaaGreat
end
section
namespace Go.Proofs.YtciijpahjjoppaaGreat
open Go.RowKit Go.Deep Go.Maps Go.Sort

set_option maxRecDepth 100000 in
set_option maxHeartbeats 32000000 in
theorem stmt_no (w0 : World) (d ar : Int) (m0 m1 : List (List D)) (op : Int) (nm : ByteArray) (pop pn : Int) (pnm pfd : ByteArray) (pl ex : List (List D)) (dn mo : Bool) (bd el en e2 : List (List D)) (m0a : Option Addr) (m0c : Nat) (m1a : Option Addr) (m1c : Nat) (pla : Option Addr) (plc : Nat) (exa : Option Addr) (exc : Nat) (bda : Option Addr) (bdc : Nat) (ela : Option Addr) (elc : Nat) (ena : Option Addr) (enc : Nat) (e2a : Option Addr) (e2c : Nat) (fp fc fb fo fn fk td : Bool) (fl fm : Int) (hno : fk = true → td = true)
    (h_sf : ∀ W, Calls Tryz.prog 112 #[.int .i64 op] W fun e W' => e = .returned (.tuple #[.agg #[.bool fp, .int .i64 fl, .int .i64 fm, .bool fc, .bool fb, .bool fo, .bool fn], .bool fk]) ∧ Below W.heap.size W W')
    (h_td : Says w0 60 #[.agg #[.int .i64 d, .int .i64 ar]] (.bool td)) (w : World) (hW : Below w0.heap.size w0 w) :
    Calls Tryz.prog 75 #[.agg #[.int .i64 d, .int .i64 ar], .agg #[.slice m0a m0.length m0c, .slice m1a m1.length m1c, .int .i64 op, .string nm, .int .i64 pop, .int .i64 pn, .string pnm, .string pfd, .slice pla pl.length plc, .slice exa ex.length exc, .bool dn, .bool mo, .slice bda bd.length bdc, .slice ela el.length elc, .slice ena en.length enc, .slice e2a e2.length e2c]] w fun e w' => e = .returned (.bool false) ∧ Below w.heap.size w w' := by
  have K_td := Lib.hid h_td
  have HNO := Lib.hid hno
  have HW := Lib.hid hW
  have S0 := Lib.hid (Bx2.start w (.cells #[.int .i64 d, .int .i64 ar] 51) (.cells #[.slice m0a m0.length m0c, .slice m1a m1.length m1c, .int .i64 op, .string nm, .int .i64 pop, .int .i64 pn, .string pnm, .string pfd, .slice pla pl.length plc, .slice exa ex.length exc, .bool dn, .bool mo, .slice bda bd.length bdc, .slice ela el.length elc, .slice ena en.length enc, .slice e2a e2.length e2c] 84))
  clear hW h_td hno
  go_enter Tryz.func75, Tryz.ntmps75
  go_wp2_with fail
  refine (h_sf _).mono ?_
  rintro e w1 ⟨rfl, b1x⟩
  have S1 := Lib.hid (S0.out.step b1x)
  have S2 := Lib.hid (S1.out.third (.cells #[.bool fp, .int .i64 fl, .int .i64 fm, .bool fc, .bool fb, .bool fo, .bool fn] 155))
  clear b1x h_sf
  go_wp2_with fail
  obtain ⟨w2, hw2⟩ : ∃ w2, w2 = w1.alloc (.cells #[.bool fp, .int .i64 fl, .int .i64 fm, .bool fc, .bool fb, .bool fo, .bool fn] 155) := ⟨_, rfl⟩
  rw [← hw2] at S2 ⊢
  have HSZ := Lib.hid hw2
  clear hw2
  have r0 := cellsRg S2.out.a
  have r1 := cellsRg S2.out.b
  have r2 := cellsRg S2.out.c
  have B2 := Lib.hid (S2.out.on HW.out)
  have G_td := Lib.hid (K_td.out.rg B2.out)
  clear K_td
  cases fk with
  | false =>
    refine wp_region_quiet_below (l := opsL75) (by kernel_rfl) lex75 ?_
    unfold opsL75
    repeat (first | go_big_quiet_step ((first | with_reducible exact G_td.out _ _)) | quiet_step ((first | with_reducible exact G_td.out _ _)))
    refine wpQuiet_nil ?_
    intro _ hw'
    obtain ⟨⟨dq, osq⟩, hw''⟩ := hw'
    subst hw''
    have BQ := Lib.hid (S2.out.bel.trans ((below_regrown w2 dq osq).mono S2.out.bel.size))
    clear r0 r1 r2
    go_wp2_with fail
    go_ret
    exact ⟨rfl, BQ.out⟩
  | true =>
    obtain rfl : td = true := HNO.out (by trivial)
    refine wp_region_quiet_below (l := opsL75) (by kernel_rfl) lex75 ?_
    unfold opsL75
    repeat (first | go_big_quiet_step ((first | with_reducible exact G_td.out _ _)) | quiet_step ((first | with_reducible exact G_td.out _ _)))
    refine wpQuiet_nil ?_
    intro _ hw'
    obtain ⟨⟨dq, osq⟩, hw''⟩ := hw'
    subst hw''
    have BQ := Lib.hid (S2.out.bel.trans ((below_regrown w2 dq osq).mono S2.out.bel.size))
    clear r0 r1 r2
    go_wp2_with fail
    go_ret
    exact ⟨rfl, BQ.out⟩
end Go.Proofs.YtciijpahjjoppaaGreat
end
section
namespace Go.Proofs.YtciijpahjjoppaaGreat
open Go.RowKit Go.Deep Go.Maps Go.Sort

theorem tooDeep_says (w0 : World) (d ar : Int) : Says w0 60 #[.agg #[.int .i64 d, .int .i64 ar]] (.bool (decide ((48 : Int) ≤ ar))) := fun W _ => (tooDeep_any d ar W).mono fun e w' ⟨he, hw⟩ => ⟨he, by rw [hw]; exact (Below.refl _ _).alloc (Nat.le_refl _) _⟩
theorem sform_says (op : Int) (fk : Bool) (hk : sok op = fk) (W : World) : Calls Tryz.prog 112 #[.int .i64 op] W fun e W' => e = .returned (.tuple #[.agg #[.bool (splace op), .int .i64 (sleast op), .int .i64 (smost op), .bool (scall op), .bool (sbody op), .bool (sother op), .bool (scount op)], .bool fk]) ∧ Below W.heap.size W W' := by
  subst hk
  exact stmtForm_any op W
theorem first_op (w0 : World) (op : Int) (exa : Option Addr) (exc : Nat) (ex : List (List D)) (a_ex : At w0 (.slice exa ex.length exc) (.row ex)) (t_ex : ∀ x ∈ ex, ShE x) (hc : scall op = true) (hw : wthn ex.length (sleast op) (smost op) = true) :
    0 < ex.length ∧ callFirst ex = (opD (ex.getD 0 []) == 7) ∧ ∃ b o, exa = some ⟨b, o, none⟩ ∧ b < w0.heap.size ∧ w0.cell? ⟨b, o, none⟩ = some (.int .i64 (opD (ex.getD 0 []))) := by
  have h1 := scall_least op hc
  unfold wthn at hw
  simp only [Bool.and_eq_true, decide_eq_true_eq] at hw
  have hlt : 0 < ex.length := by omega
  obtain ⟨b, o, vs, ds, rfl, hbl, hx, hv, hcl⟩ := a_ex.elem hlt
  obtain ⟨op2, n2, nm2, fd2, kl, kla, klc, hds, hvs, _⟩ := hv.openE (t_ex _ (List.mem_of_getElem? hx))
  subst hvs
  have hg : ex.getD 0 [] = ds := by rw [List.getD_eq_getElem?_getD, hx]; rfl
  refine ⟨hlt, ?_, b, o, rfl, hbl, ?_⟩
  · cases ex with
    | nil => simp at hlt
    | cons y ys => rfl
  · rw [hg, hds]
    simpa [opD] using hcl 0 _ rfl
theorem okSx_eq (d : Int) (f : List D → Bool) (m0 m1 : List (List D)) (op : Int) (nm : ByteArray) (pop pn : Int) (pnm pfd : ByteArray) (pl ex : List (List D)) (dn mo : Bool) (bd el en e2 : List (List D)) : okSx d f [.row m0, .row m1, .int op, .str nm, .int pop, .int pn, .str pnm, .str pfd, .row pl, .row ex, .bool dn, .bool mo, .row bd, .row el, .row en, .row e2] = (sok op && ((okNs m0 && okNs m1) && (nameW d (scount op) nm && ((scount op || !dn) && (placeW d (splace op) pop [.int pop, .int pn, .str pnm, .str pfd, .row pl] && (wthn ex.length (sleast op) (smost op) && (okAll ex (okE d 48) && ((!scall op || callFirst ex) && (blockW (sbody op) bd en f && ((sother op || !mo) && blockW mo el e2 f)))))))))) := rfl
theorem stmt_step (w0 : World) (d : Int) (hd : d = 0 ∨ d = 1) (ar k : Nat) (hk : ar + (k + 1) = 48) (x : List D) (vs : List Value) (hx : ShS x) (hv : AllAt w0 vs x) (f : List D → Bool)
    (hf : ∀ l, D.row l ∈ x → (∀ z ∈ l, ShS z) → OkFn w0 75 (.agg #[.int .i64 d, .int .i64 ((ar + 1 : Nat) : Int)]) l f) (w : World) (hW : Below w0.heap.size w0 w) :
    Calls Tryz.prog 75 #[.agg #[.int .i64 d, .int .i64 ar], .agg ⟨vs⟩] w fun e w' => e = .returned (.bool (okSx d f x)) ∧ Below w.heap.size w w' := by
  obtain ⟨m0, m1, op, nm, pop, pn, pnm, pfd, pl, ex, dn, mo, bd, el, en, e2, m0a, m0c, m1a, m1c, pla, plc, exa, exc, bda, bdc, ela, elc, ena, enc, e2a, e2c, rfl, rfl, a_m0, a_m1, _, i_nm, ⟨p1, p2⟩, ⟨p3, p4⟩, p5, p6, a_pl, a_ex, a_bd, a_el, a_en, a_e2, t_m0, t_m1, t_pl, t_ex, t_bd, t_el, t_en, t_e2⟩ := hv.openS hx
  have hdp : decide ((48 : Int) ≤ (ar : Int)) = false := by simp; omega
  have td := tooDeep_says w0 d ar
  rw [hdp] at td
  have x_p : ShE [.int pop, .int pn, .str pnm, .str pfd, .row pl] := .mk pop pn pnm pfd pl t_pl
  have v_p : AllAt w0 [.int .i64 pop, .int .i64 pn, .string pnm, .string pfd, .slice pla pl.length plc] [.int pop, .int pn, .str pnm, .str pfd, .row pl] := ⟨.int pop p1 p2, .int pn p3 p4, .str pnm p5, .str pfd p6, a_pl, trivial⟩
  have q1 : Says w0 105 _ _ := fun W hW => marks_any w0 d ar hd m0 m1 m0a m0c m1a m1c a_m0 a_m1 t_m0 t_m1 W hW
  have q2 : Says w0 63 _ _ := fun W _ => nameWhere_any d ar (scount op) nm W i_nm
  have q3 : Says w0 113 _ _ := fun W hW => placeWhere_any w0 d ar (splace op) pop pn pnm pfd pl pla plc x_p v_p W hW
  have q4 : Says w0 100 _ _ := fun W _ => (within_any (ex.length : Int) (sleast op) (smost op) W).mono fun e w' ⟨he, hw⟩ => ⟨he, below_same hw⟩
  have q5 : Says w0 114 _ _ := fun W _ => outermost_any d ar W
  have q6 : Says w0 64 _ _ := fun W hW => allE_any w0 25 (.agg #[.int .i64 d, .int .i64 0]) (okE d 48) exa ex.length exc ex a_ex t_ex (fun y hy us hu U hU => expr_any w0 d 48 0 rfl y us (t_ex y hy) hu U hU) (enters_of Tryz.func25 (by kernel_rfl) rfl) W hW
  have q7 : Says w0 115 _ _ := fun W hW => blockWhere_any w0 d ar (by omega) hd (sbody op) bd en bda bdc ena enc a_bd t_bd a_en t_en f (fun _ => hf bd (by simp) t_bd) W hW
  have q8 : Says w0 115 _ _ := fun W hW => blockWhere_any w0 d ar (by omega) hd mo el e2 ela elc e2a e2c a_el t_el a_e2 t_e2 f (fun _ => hf el (by simp) t_el) W hW
  have fo := first_op w0 op exa exc ex a_ex t_ex
  cases hsk : sok op with
  | false =>
    have h := stmt_no w0 d ar m0 m1 op nm pop pn pnm pfd pl ex dn mo bd el en e2 m0a m0c m1a m1c pla plc exa exc bda bdc ela elc ena enc e2a e2c (splace op) (scall op) (sbody op) (sother op) (scount op) false false (sleast op) (smost op) (fun h => by cases h) (sform_says op false hsk) td w hW
    rw [okSx_eq, hsk, Bool.false_and]
    exact h
  | true =>
  have hsf := sform_says op true hsk
  rw [okSx_eq, hsk, Bool.true_and]
  generalize splace op = fp at *
  generalize sleast op = fl at *
  generalize smost op = fm at *
  generalize hfc : scall op = fc at *
  generalize sbody op = fb at *
  generalize sother op = fo' at *
  generalize scount op = fn at *
  generalize (okNs m0 && okNs m1) = b1 at *
  generalize nameW d fn nm = b2 at *
  generalize placeW d fp pop [.int pop, .int pn, .str pnm, .str pfd, .row pl] = b4 at *
  generalize wthn (ex.length : Int) fl fm = b5 at *
  generalize okAll ex (okE d 48) = b6 at *
  generalize blockW fb bd en f = b8 at *
  generalize blockW mo el e2 f = b10 at *
  have hl := a_ex.len_le
  have hc5 : fc = true → b5 = true → 0 < ex.length ∧ callFirst ex = (opD (ex.getD 0 []) == 7) ∧ ∃ b o, exa = some ⟨b, o, none⟩ ∧ b < w0.heap.size ∧ w0.cell? ⟨b, o, none⟩ = some (.int .i64 (opD (ex.getD 0 []))) := fo
  cases fn with
  | true =>
    cases h6 : (b1 && (b2 && (b4 && (b5 && b6)))) with
    | false => exact stmt_a0 w0 d ar (by omega) m0 m1 op nm pop pn pnm pfd pl ex dn mo bd el en e2 m0a m0c m1a m1c pla plc exa exc bda bdc ela elc ena enc e2a e2c fp fc fb fo' b1 b10 b2 b4 b5 b6 b8 (callFirst ex) fl fm (opD (ex.getD 0 [])) hsf q1 q2 q3 q4 q5 q6 q7 q8 td hc5 hl h6 w hW
    | true =>
      simp only [Bool.and_eq_true] at h6
      obtain ⟨rfl, rfl, rfl, rfl, rfl⟩ := h6
      exact stmt_b0 w0 d ar (by omega) m0 m1 op nm pop pn pnm pfd pl ex dn mo bd el en e2 m0a m0c m1a m1c pla plc exa exc bda bdc ela elc ena enc e2a e2c fp fc fb fo' b10 b8 (callFirst ex) fl fm (opD (ex.getD 0 [])) hsf q1 q2 q3 q4 q5 q6 q7 q8 td hc5 hl w hW
  | false =>
    cases dn with
    | true => exact stmt_a2 w0 d ar (by omega) m0 m1 op nm pop pn pnm pfd pl ex mo bd el en e2 m0a m0c m1a m1c pla plc exa exc bda bdc ela elc ena enc e2a e2c fp fc fb fo' b1 b10 b2 b4 b5 b6 b8 (callFirst ex) fl fm (opD (ex.getD 0 [])) hsf q1 q2 q3 q4 q5 q6 q7 q8 td hc5 hl w hW
    | false =>
      cases h6 : (b1 && (b2 && (b4 && (b5 && b6)))) with
      | false => exact stmt_a1 w0 d ar (by omega) m0 m1 op nm pop pn pnm pfd pl ex mo bd el en e2 m0a m0c m1a m1c pla plc exa exc bda bdc ela elc ena enc e2a e2c fp fc fb fo' b1 b10 b2 b4 b5 b6 b8 (callFirst ex) fl fm (opD (ex.getD 0 [])) hsf q1 q2 q3 q4 q5 q6 q7 q8 td hc5 hl h6 w hW
      | true =>
        simp only [Bool.and_eq_true] at h6
        obtain ⟨rfl, rfl, rfl, rfl, rfl⟩ := h6
        exact stmt_b1 w0 d ar (by omega) m0 m1 op nm pop pn pnm pfd pl ex mo bd el en e2 m0a m0c m1a m1c pla plc exa exc bda bdc ela elc ena enc e2a e2c fp fc fb fo' b10 b8 (callFirst ex) fl fm (opD (ex.getD 0 [])) hsf q1 q2 q3 q4 q5 q6 q7 q8 td hc5 hl w hW
theorem stmt_any (w0 : World) (d : Int) (hd : d = 0 ∨ d = 1) : ∀ (k ar : Nat), ar + k = 48 → ∀ (x : List D) (vs : List Value), ShS x → AllAt w0 vs x → ∀ W, Below w0.heap.size w0 W →
    Calls Tryz.prog 75 #[.agg #[.int .i64 d, .int .i64 ar], .agg ⟨vs⟩] W fun e W' => e = .returned (.bool (okS d k x)) ∧ Below W.heap.size W W'
  | 0, ar, hk, x, vs, hx, hv, W, hW => by
    obtain ⟨m0, m1, op, nm, pop, pn, pnm, pfd, pl, ex, dn, mo, bd, el, en, e2, m0a, m0c, m1a, m1c, pla, plc, exa, exc, bda, bdc, ela, elc, ena, enc, e2a, e2c, rfl, rfl, _⟩ := hv.openS hx
    have hdp : decide ((48 : Int) ≤ (ar : Int)) = true := by simp; omega
    have td := tooDeep_says w0 d ar
    rw [hdp] at td
    exact stmt_no w0 d ar m0 m1 op nm pop pn pnm pfd pl ex dn mo bd el en e2 m0a m0c m1a m1c pla plc exa exc bda bdc ela elc ena enc e2a e2c (splace op) (scall op) (sbody op) (sother op) (scount op) (sok op) true (sleast op) (smost op) (fun _ => rfl) (sform_says op _ rfl) td W hW
  | k + 1, ar, hk, x, vs, hx, hv, W, hW => stmt_step w0 d hd ar k hk x vs hx hv (okS d k) (fun l _ hs y hy us hu U hU => stmt_any w0 d hd k (ar + 1) (by omega) y us (hs y hy) hu U hU) W hW
end Go.Proofs.YtciijpahjjoppaaGreat
end
