/-
  Texts of this proof, put together.
-/
import Derived.Test.YtciijpahjjoppaaGreatPc8
import Derived.Test.YtciijpahjjoppaaGreatPc13
import Derived.Test.YtciijpahjjoppaaGreatPc12
section
namespace Go.Proofs.YtciijpahjjoppaaGreat
open Go.RowKit Go.Deep Go.Maps

set_option maxRecDepth 100000 in
set_option maxHeartbeats 8000000 in
theorem rst_4 (w0 : World) (d : Int) (dp : Nat) (hdp : dp ≤ 48) (m0 m1 : List (List D)) (nm : ByteArray) (pop pn : Int) (pnm pfd : ByteArray) (pl ex : List (List D)) (dn mo : Bool) (bd el en e2 : List (List D)) (m0a : Option Addr) (m0c : Nat) (m1a : Option Addr) (m1c : Nat) (pla : Option Addr) (plc : Nat) (exa : Option Addr) (exc : Nat) (bda : Option Addr) (bdc : Nat) (ela : Option Addr) (elc : Nat) (ena : Option Addr) (enc : Nat) (e2a : Option Addr) (e2c : Nat) (M EN E2 P NM BD EL R : Bool) (gx : List D → Bool)
    (q_m : Says w0 31 #[.agg #[.slice m0a m0.length m0c, .slice m1a m1.length m1c]] (.bool M)) (q_en : Says w0 30 #[.slice ena en.length enc] (.bool EN)) (q_e2 : Says w0 30 #[.slice e2a e2.length e2c] (.bool E2)) (q_p : Says w0 120 #[.agg #[.int .i64 pop, .int .i64 pn, .string pnm, .string pfd, .slice pla pl.length plc]] (.bool P)) (q_nm : Says w0 29 #[.int .i64 d, .string nm] (.bool NM))
    (q_bd : Says w0 34 #[.int .i64 d, .slice bda bd.length bdc, .int .i64 ((dp + 1 : Nat) : Int)] (.bool BD)) (q_el : Says w0 34 #[.int .i64 d, .slice ela el.length elc, .int .i64 ((dp + 1 : Nat) : Int)] (.bool EL))
    (q_x : ∀ x ∈ ex, ∀ vs, AllAt w0 vs x → Says w0 10 #[.int .i64 d, .agg ⟨vs⟩] (.bool (gx x))) (a_ex : At w0 (.slice exa ex.length exc) (.row ex)) (t_ex : ∀ x ∈ ex, ShE x)
    (hR : R = (M && (EN && (E2 && (wthn ex.length 1 1 && (ex.all gx && (P && ((nm.toList.isEmpty && !dn) && ((!mo && ((el.length == 0) && (e2.length == 0))) && (true && (BD && EL))))))))))) (w : World) (hW : Below w0.heap.size w0 w) :
    Calls Tryz.prog 81 #[.int .i64 d, .agg #[.slice m0a m0.length m0c, .slice m1a m1.length m1c, .int .i64 4, .string nm, .int .i64 pop, .int .i64 pn, .string pnm, .string pfd, .slice pla pl.length plc, .slice exa ex.length exc, .bool dn, .bool mo, .slice bda bd.length bdc, .slice ela el.length elc, .slice ena en.length enc, .slice e2a e2.length e2c], .int .i64 dp] w fun e w' => e = .returned (.bool R) ∧ Below w.heap.size w w' := by
  have K_m := Lib.hid q_m
  have K_en := Lib.hid q_en
  have K_e2 := Lib.hid q_e2
  have K_p := Lib.hid q_p
  have K_nm := Lib.hid q_nm
  have K_bd := Lib.hid q_bd
  have K_el := Lib.hid q_el
  have K_x := Lib.hid q_x
  have HA := Lib.hid a_ex
  have HS := Lib.hid t_ex
  have HW := Lib.hid hW
  have HR := Lib.hid hR
  have hle := a_ex.len_le
  have S0 := Lib.hid (Bx1.start w (.cells #[.slice m0a m0.length m0c, .slice m1a m1.length m1c, .int .i64 4, .string nm, .int .i64 pop, .int .i64 pn, .string pnm, .string pfd, .slice pla pl.length plc, .slice exa ex.length exc, .bool dn, .bool mo, .slice bda bd.length bdc, .slice ela el.length elc, .slice ena en.length enc, .slice e2a e2.length e2c] 84))
  have hdp2 : decide ((48 : Int) < (dp : Int)) = false := by simp; omega
  clear q_m q_en q_e2 q_p q_nm q_bd q_el q_x a_ex t_ex hW hR
  go_enter Tryz.func81, Tryz.ntmps81
  go_wp2_with fail
  refine (K_m.out _ (S0.out.on HW.out)).mono ?_
  rintro e w1 ⟨rfl, b1⟩
  have S1 := Lib.hid (S0.out.step b1)
  clear b1
  have cA := box_cells S1.out.a
  cases M with
  | false =>
    go_wp2_with fail
    go_ret
    exact ⟨by rw [HR.out]; rfl, S1.out.bel⟩
  | true =>
  go_wp2_with fail
  refine (K_en.out _ (S1.out.on HW.out)).mono ?_
  rintro e w2 ⟨rfl, b2⟩
  have S2 := Lib.hid (S1.out.step b2)
  clear b2 cA
  have cA := box_cells S2.out.a
  cases EN with
  | false =>
    go_wp2_with fail
    go_ret
    exact ⟨by rw [HR.out]; rfl, S2.out.bel⟩
  | true =>
  go_wp2_with fail
  refine (K_e2.out _ (S2.out.on HW.out)).mono ?_
  rintro e w3 ⟨rfl, b3⟩
  have S3 := Lib.hid (S2.out.step b3)
  clear b3 cA
  have cA := box_cells S3.out.a
  cases E2 with
  | false =>
    go_wp2_with fail
    go_ret
    exact ⟨by rw [HR.out]; rfl, S3.out.bel⟩
  | true =>
  by_cases hlo : (ex.length : Int) < 1
  · have hl1 : decide ((ex.length : Int) < 1) = true := decide_eq_true hlo
    have hwt : wthn ex.length 1 1 = false := by unfold wthn; rw [decide_eq_false (show ¬ ((1 : Int) ≤ (ex.length : Int)) by omega), Bool.false_and]
    rw [hwt] at HR
    have hl2 : decide (ex.length < 1) = true := decide_eq_true (by omega)
    go_wp2_with fail
    go_ret
    exact ⟨by rw [HR.out]; rfl, S3.out.bel⟩
  by_cases hhi : (1 : Int) < ex.length
  · have hl1 : decide ((ex.length : Int) < 1) = false := decide_eq_false hlo
    have hl3 : decide ((1 : Int) < ex.length) = true := decide_eq_true hhi
    have hl2 : decide (ex.length < 1) = false := decide_eq_false (by omega)
    have hl4 : decide (1 < ex.length) = true := decide_eq_true (by omega)
    have hwt : wthn ex.length 1 1 = false := by unfold wthn; rw [decide_eq_false (show ¬ ((ex.length : Int) ≤ 1) by omega), Bool.and_false]
    rw [hwt] at HR
    go_wp2_with fail
    go_ret
    exact ⟨by rw [HR.out]; rfl, S3.out.bel⟩
  have hl1 : decide ((ex.length : Int) < 1) = false := decide_eq_false hlo
  have hl3 : decide ((1 : Int) < ex.length) = false := decide_eq_false hhi
  have hl2 : decide (ex.length < 1) = false := decide_eq_false (by omega)
  have hl4 : decide (1 < ex.length) = false := decide_eq_false (by omega)
  have hwt : wthn ex.length 1 1 = true := by unfold wthn; rw [decide_eq_true (show ((1 : Int) ≤ (ex.length : Int)) by omega), decide_eq_true (show ((ex.length : Int) ≤ 1) by omega)]; rfl
  rw [hwt] at HR; clear hwt
  go_wp2_with fail
  go_loopw [9] (fun i wr => ∃ k : Nat, k ≤ ex.length ∧ i = .int .i64 k ∧ Hid ((ex.take k).all gx = true) ∧ Hid (Bx1 w (.cells #[.slice m0a m0.length m0c, .slice m1a m1.length m1c, .int .i64 4, .string nm, .int .i64 pop, .int .i64 pn, .string pnm, .string pfd, .slice pla pl.length plc, .slice exa ex.length exc, .bool dn, .bool mo, .slice bda bd.length bdc, .slice ela el.length elc, .slice ena en.length enc, .slice e2a e2.length e2c] 84) wr)) (fun i _ => ex.length - (intOf i).toNat)
  case atStart => exact ⟨0, Nat.zero_le _, rfl, Lib.hid rfl, Lib.hid S3.out⟩
  case round =>
    obtain ⟨k, hk, rfl, HT, SW⟩ := hrel
    clear cA
    have cA := box_cells SW.out.a
    by_cases hlt : k < ex.length
    · obtain ⟨b, o, vs, ds, rfl, hbl, hx, hv, hc⟩ := HA.out.elem hlt
      have qx := Lib.hid (K_x.out ds (List.mem_of_getElem? hx) vs hv)
      obtain ⟨xop, xn, xnm, xfd, kl, kla, klc, hds, hvs, _⟩ := hv.openE (HS.out _ (List.mem_of_getElem? hx))
      subst hvs
      have hdl : ds.length = 5 := by rw [hds]; rfl
      rw [hdl] at hc
      have B0 := SW.out.on HW.out
      have hbw : b < wr.heap.size := Nat.lt_of_lt_of_le hbl B0.size
      have c0 := (B0.cell (p := ⟨b, o + k * 5, none⟩) hbl).trans (hc 0 _ rfl)
      have c1 := (B0.cell (p := ⟨b, o + k * 5 + 1, none⟩) hbl).trans (hc 1 _ rfl)
      have c2 := (B0.cell (p := ⟨b, o + k * 5 + 2, none⟩) hbl).trans (hc 2 _ rfl)
      have c3 := (B0.cell (p := ⟨b, o + k * 5 + 3, none⟩) hbl).trans (hc 3 _ rfl)
      have c4 := (B0.cell (p := ⟨b, o + k * 5 + 4, none⟩) hbl).trans (hc 4 _ rfl)
      have C0 := Lib.hid (hc 0 _ rfl)
      have HX := Lib.hid hx
      have HOP := Lib.hid (show opD ds = xop by rw [hds]; rfl)
      clear hx hds hdl hc B0 hv
      go_wp2_with fail
      refine (qx.out _ (SW.out.on HW.out)).mono ?_
      rintro e v1 ⟨rfl, bv⟩
      have SV := Lib.hid (SW.out.step bv)
      clear bv cA c0 c1 c2 c3 c4
      have cA := box_cells SV.out.a
      have B1 := SV.out.on HW.out
      have hbw1 : b < v1.heap.size := Nat.lt_of_lt_of_le hbl B1.size
      have c0 := (B1.cell (p := ⟨b, o + k * 5, none⟩) hbl).trans C0.out
      clear B1
      cases hg : gx ds with
      | false =>
        have hal : ex.all gx = false := by rw [List.all_eq_false]; exact ⟨ds, List.mem_of_getElem? HX.out, by simp [hg]⟩
        rw [hal] at HR; clear hg hal
        go_wp2_with fail
        go_ret
        exact ⟨by rw [HR.out]; rfl, SV.out.bel⟩
      | true =>
      have HE := Lib.hid (all_take_succ (f := gx) HX.out HT.out hg)
      clear hg
      go_wp2_with fail
      go_roundw
      case rel => exact ⟨k + 1, by omega, by go_num, HE, SV⟩
      case measure => simp [intOf]; omega
    · obtain rfl : k = ex.length := by omega
      have hal := HT.out
      rw [List.take_length] at hal
      rw [hal] at HR; clear hal
      have S4 := SW
      go_wp2_with fail
      refine (K_p.out _ (S4.out.on HW.out)).mono ?_
      rintro e w5 ⟨rfl, b5⟩
      have S5 := Lib.hid (S4.out.step b5)
      clear b5 cA
      have cA := box_cells S5.out.a
      cases P with
      | false =>
        go_wp2_with fail
        go_ret
        exact ⟨by rw [HR.out]; rfl, S5.out.bel⟩
      | true =>
      cases hnm : nm.toList.isEmpty with
      | false =>
        rw [hnm] at HR
        have hnm2 : (nm.toList == []) = false := by rw [← hnm]; cases nm.toList <;> rfl
        go_wp2_with fail
        go_ret
        exact ⟨by rw [HR.out]; rfl, S5.out.bel⟩
      | true =>
      rw [hnm] at HR
      have hnm2 : (nm.toList == []) = true := by rw [← hnm]; cases nm.toList <;> rfl
      cases dn with
      | true =>
        go_wp2_with fail
        go_ret
        exact ⟨by rw [HR.out]; rfl, S5.out.bel⟩
      | false =>
      cases mo with
      | true =>
        go_wp2_with fail
        go_ret
        exact ⟨by rw [HR.out]; rfl, S5.out.bel⟩
      | false =>
      by_cases gl : 0 < el.length
      · have hl : decide (0 < el.length) = true := decide_eq_true gl
        have xl : (el.length == 0) = false := by rw [beq_eq_false_iff_ne]; omega
        rw [xl] at HR; clear xl
        go_wp2_with fail
        go_ret
        exact ⟨by rw [HR.out]; rfl, S5.out.bel⟩
      have hl : decide (0 < el.length) = false := decide_eq_false gl
      have xl : (el.length == 0) = true := by rw [beq_iff_eq]; omega
      rw [xl] at HR; clear xl
      by_cases gm : 0 < e2.length
      · have hm : decide (0 < e2.length) = true := decide_eq_true gm
        have xm : (e2.length == 0) = false := by rw [beq_eq_false_iff_ne]; omega
        rw [xm] at HR; clear xm
        go_wp2_with fail
        go_ret
        exact ⟨by rw [HR.out]; rfl, S5.out.bel⟩
      have hm : decide (0 < e2.length) = false := decide_eq_false gm
      have xm : (e2.length == 0) = true := by rw [beq_iff_eq]; omega
      rw [xm] at HR; clear xm
      go_wp2_with fail
      refine (K_bd.out _ (S5.out.on HW.out)).mono ?_
      rintro e w6 ⟨rfl, b6⟩
      have S6 := Lib.hid (S5.out.step b6)
      clear b6 cA
      have cA := box_cells S6.out.a
      cases BD with
      | false =>
        go_wp2_with fail
        go_ret
        exact ⟨by rw [HR.out]; rfl, S6.out.bel⟩
      | true =>
      go_wp2_with fail
      refine (K_el.out _ (S6.out.on HW.out)).mono ?_
      rintro e w7 ⟨rfl, b7⟩
      have S7 := Lib.hid (S6.out.step b7)
      clear b7 cA
      have cA := box_cells S7.out.a
      cases EL with
      | false =>
        go_wp2_with fail
        go_ret
        exact ⟨by rw [HR.out]; rfl, S7.out.bel⟩
      | true =>
      go_wp2_with fail
      go_ret
      exact ⟨by rw [HR.out]; rfl, S7.out.bel⟩
set_option maxRecDepth 100000 in
set_option maxHeartbeats 8000000 in
theorem rst_5 (w0 : World) (d : Int) (dp : Nat) (hdp : dp ≤ 48) (m0 m1 : List (List D)) (nm : ByteArray) (pop pn : Int) (pnm pfd : ByteArray) (pl ex : List (List D)) (dn mo : Bool) (bd el en e2 : List (List D)) (m0a : Option Addr) (m0c : Nat) (m1a : Option Addr) (m1c : Nat) (pla : Option Addr) (plc : Nat) (exa : Option Addr) (exc : Nat) (bda : Option Addr) (bdc : Nat) (ela : Option Addr) (elc : Nat) (ena : Option Addr) (enc : Nat) (e2a : Option Addr) (e2c : Nat) (M EN E2 P NM BD EL R : Bool) (gx : List D → Bool)
    (q_m : Says w0 31 #[.agg #[.slice m0a m0.length m0c, .slice m1a m1.length m1c]] (.bool M)) (q_en : Says w0 30 #[.slice ena en.length enc] (.bool EN)) (q_e2 : Says w0 30 #[.slice e2a e2.length e2c] (.bool E2)) (q_p : Says w0 120 #[.agg #[.int .i64 pop, .int .i64 pn, .string pnm, .string pfd, .slice pla pl.length plc]] (.bool P)) (q_nm : Says w0 29 #[.int .i64 d, .string nm] (.bool NM))
    (q_bd : Says w0 34 #[.int .i64 d, .slice bda bd.length bdc, .int .i64 ((dp + 1 : Nat) : Int)] (.bool BD)) (q_el : Says w0 34 #[.int .i64 d, .slice ela el.length elc, .int .i64 ((dp + 1 : Nat) : Int)] (.bool EL))
    (q_x : ∀ x ∈ ex, ∀ vs, AllAt w0 vs x → Says w0 10 #[.int .i64 d, .agg ⟨vs⟩] (.bool (gx x))) (a_ex : At w0 (.slice exa ex.length exc) (.row ex)) (t_ex : ∀ x ∈ ex, ShE x)
    (hR : R = (M && (EN && (E2 && (wthn ex.length 1 1 && (ex.all gx && (P && ((nm.toList.isEmpty && !dn) && ((!mo && ((el.length == 0) && (e2.length == 0))) && (true && (BD && EL))))))))))) (w : World) (hW : Below w0.heap.size w0 w) :
    Calls Tryz.prog 81 #[.int .i64 d, .agg #[.slice m0a m0.length m0c, .slice m1a m1.length m1c, .int .i64 5, .string nm, .int .i64 pop, .int .i64 pn, .string pnm, .string pfd, .slice pla pl.length plc, .slice exa ex.length exc, .bool dn, .bool mo, .slice bda bd.length bdc, .slice ela el.length elc, .slice ena en.length enc, .slice e2a e2.length e2c], .int .i64 dp] w fun e w' => e = .returned (.bool R) ∧ Below w.heap.size w w' := by
  have K_m := Lib.hid q_m
  have K_en := Lib.hid q_en
  have K_e2 := Lib.hid q_e2
  have K_p := Lib.hid q_p
  have K_nm := Lib.hid q_nm
  have K_bd := Lib.hid q_bd
  have K_el := Lib.hid q_el
  have K_x := Lib.hid q_x
  have HA := Lib.hid a_ex
  have HS := Lib.hid t_ex
  have HW := Lib.hid hW
  have HR := Lib.hid hR
  have hle := a_ex.len_le
  have S0 := Lib.hid (Bx1.start w (.cells #[.slice m0a m0.length m0c, .slice m1a m1.length m1c, .int .i64 5, .string nm, .int .i64 pop, .int .i64 pn, .string pnm, .string pfd, .slice pla pl.length plc, .slice exa ex.length exc, .bool dn, .bool mo, .slice bda bd.length bdc, .slice ela el.length elc, .slice ena en.length enc, .slice e2a e2.length e2c] 84))
  have hdp2 : decide ((48 : Int) < (dp : Int)) = false := by simp; omega
  clear q_m q_en q_e2 q_p q_nm q_bd q_el q_x a_ex t_ex hW hR
  go_enter Tryz.func81, Tryz.ntmps81
  go_wp2_with fail
  refine (K_m.out _ (S0.out.on HW.out)).mono ?_
  rintro e w1 ⟨rfl, b1⟩
  have S1 := Lib.hid (S0.out.step b1)
  clear b1
  have cA := box_cells S1.out.a
  cases M with
  | false =>
    go_wp2_with fail
    go_ret
    exact ⟨by rw [HR.out]; rfl, S1.out.bel⟩
  | true =>
  go_wp2_with fail
  refine (K_en.out _ (S1.out.on HW.out)).mono ?_
  rintro e w2 ⟨rfl, b2⟩
  have S2 := Lib.hid (S1.out.step b2)
  clear b2 cA
  have cA := box_cells S2.out.a
  cases EN with
  | false =>
    go_wp2_with fail
    go_ret
    exact ⟨by rw [HR.out]; rfl, S2.out.bel⟩
  | true =>
  go_wp2_with fail
  refine (K_e2.out _ (S2.out.on HW.out)).mono ?_
  rintro e w3 ⟨rfl, b3⟩
  have S3 := Lib.hid (S2.out.step b3)
  clear b3 cA
  have cA := box_cells S3.out.a
  cases E2 with
  | false =>
    go_wp2_with fail
    go_ret
    exact ⟨by rw [HR.out]; rfl, S3.out.bel⟩
  | true =>
  by_cases hlo : (ex.length : Int) < 1
  · have hl1 : decide ((ex.length : Int) < 1) = true := decide_eq_true hlo
    have hwt : wthn ex.length 1 1 = false := by unfold wthn; rw [decide_eq_false (show ¬ ((1 : Int) ≤ (ex.length : Int)) by omega), Bool.false_and]
    rw [hwt] at HR
    have hl2 : decide (ex.length < 1) = true := decide_eq_true (by omega)
    go_wp2_with fail
    go_ret
    exact ⟨by rw [HR.out]; rfl, S3.out.bel⟩
  by_cases hhi : (1 : Int) < ex.length
  · have hl1 : decide ((ex.length : Int) < 1) = false := decide_eq_false hlo
    have hl3 : decide ((1 : Int) < ex.length) = true := decide_eq_true hhi
    have hl2 : decide (ex.length < 1) = false := decide_eq_false (by omega)
    have hl4 : decide (1 < ex.length) = true := decide_eq_true (by omega)
    have hwt : wthn ex.length 1 1 = false := by unfold wthn; rw [decide_eq_false (show ¬ ((ex.length : Int) ≤ 1) by omega), Bool.and_false]
    rw [hwt] at HR
    go_wp2_with fail
    go_ret
    exact ⟨by rw [HR.out]; rfl, S3.out.bel⟩
  have hl1 : decide ((ex.length : Int) < 1) = false := decide_eq_false hlo
  have hl3 : decide ((1 : Int) < ex.length) = false := decide_eq_false hhi
  have hl2 : decide (ex.length < 1) = false := decide_eq_false (by omega)
  have hl4 : decide (1 < ex.length) = false := decide_eq_false (by omega)
  have hwt : wthn ex.length 1 1 = true := by unfold wthn; rw [decide_eq_true (show ((1 : Int) ≤ (ex.length : Int)) by omega), decide_eq_true (show ((ex.length : Int) ≤ 1) by omega)]; rfl
  rw [hwt] at HR; clear hwt
  go_wp2_with fail
  go_loopw [9] (fun i wr => ∃ k : Nat, k ≤ ex.length ∧ i = .int .i64 k ∧ Hid ((ex.take k).all gx = true) ∧ Hid (Bx1 w (.cells #[.slice m0a m0.length m0c, .slice m1a m1.length m1c, .int .i64 5, .string nm, .int .i64 pop, .int .i64 pn, .string pnm, .string pfd, .slice pla pl.length plc, .slice exa ex.length exc, .bool dn, .bool mo, .slice bda bd.length bdc, .slice ela el.length elc, .slice ena en.length enc, .slice e2a e2.length e2c] 84) wr)) (fun i _ => ex.length - (intOf i).toNat)
  case atStart => exact ⟨0, Nat.zero_le _, rfl, Lib.hid rfl, Lib.hid S3.out⟩
  case round =>
    obtain ⟨k, hk, rfl, HT, SW⟩ := hrel
    clear cA
    have cA := box_cells SW.out.a
    by_cases hlt : k < ex.length
    · obtain ⟨b, o, vs, ds, rfl, hbl, hx, hv, hc⟩ := HA.out.elem hlt
      have qx := Lib.hid (K_x.out ds (List.mem_of_getElem? hx) vs hv)
      obtain ⟨xop, xn, xnm, xfd, kl, kla, klc, hds, hvs, _⟩ := hv.openE (HS.out _ (List.mem_of_getElem? hx))
      subst hvs
      have hdl : ds.length = 5 := by rw [hds]; rfl
      rw [hdl] at hc
      have B0 := SW.out.on HW.out
      have hbw : b < wr.heap.size := Nat.lt_of_lt_of_le hbl B0.size
      have c0 := (B0.cell (p := ⟨b, o + k * 5, none⟩) hbl).trans (hc 0 _ rfl)
      have c1 := (B0.cell (p := ⟨b, o + k * 5 + 1, none⟩) hbl).trans (hc 1 _ rfl)
      have c2 := (B0.cell (p := ⟨b, o + k * 5 + 2, none⟩) hbl).trans (hc 2 _ rfl)
      have c3 := (B0.cell (p := ⟨b, o + k * 5 + 3, none⟩) hbl).trans (hc 3 _ rfl)
      have c4 := (B0.cell (p := ⟨b, o + k * 5 + 4, none⟩) hbl).trans (hc 4 _ rfl)
      have C0 := Lib.hid (hc 0 _ rfl)
      have HX := Lib.hid hx
      have HOP := Lib.hid (show opD ds = xop by rw [hds]; rfl)
      clear hx hds hdl hc B0 hv
      go_wp2_with fail
      refine (qx.out _ (SW.out.on HW.out)).mono ?_
      rintro e v1 ⟨rfl, bv⟩
      have SV := Lib.hid (SW.out.step bv)
      clear bv cA c0 c1 c2 c3 c4
      have cA := box_cells SV.out.a
      have B1 := SV.out.on HW.out
      have hbw1 : b < v1.heap.size := Nat.lt_of_lt_of_le hbl B1.size
      have c0 := (B1.cell (p := ⟨b, o + k * 5, none⟩) hbl).trans C0.out
      clear B1
      cases hg : gx ds with
      | false =>
        have hal : ex.all gx = false := by rw [List.all_eq_false]; exact ⟨ds, List.mem_of_getElem? HX.out, by simp [hg]⟩
        rw [hal] at HR; clear hg hal
        go_wp2_with fail
        go_ret
        exact ⟨by rw [HR.out]; rfl, SV.out.bel⟩
      | true =>
      have HE := Lib.hid (all_take_succ (f := gx) HX.out HT.out hg)
      clear hg
      go_wp2_with fail
      go_roundw
      case rel => exact ⟨k + 1, by omega, by go_num, HE, SV⟩
      case measure => simp [intOf]; omega
    · obtain rfl : k = ex.length := by omega
      have hal := HT.out
      rw [List.take_length] at hal
      rw [hal] at HR; clear hal
      have S4 := SW
      go_wp2_with fail
      refine (K_p.out _ (S4.out.on HW.out)).mono ?_
      rintro e w5 ⟨rfl, b5⟩
      have S5 := Lib.hid (S4.out.step b5)
      clear b5 cA
      have cA := box_cells S5.out.a
      cases P with
      | false =>
        go_wp2_with fail
        go_ret
        exact ⟨by rw [HR.out]; rfl, S5.out.bel⟩
      | true =>
      cases hnm : nm.toList.isEmpty with
      | false =>
        rw [hnm] at HR
        have hnm2 : (nm.toList == []) = false := by rw [← hnm]; cases nm.toList <;> rfl
        go_wp2_with fail
        go_ret
        exact ⟨by rw [HR.out]; rfl, S5.out.bel⟩
      | true =>
      rw [hnm] at HR
      have hnm2 : (nm.toList == []) = true := by rw [← hnm]; cases nm.toList <;> rfl
      cases dn with
      | true =>
        go_wp2_with fail
        go_ret
        exact ⟨by rw [HR.out]; rfl, S5.out.bel⟩
      | false =>
      cases mo with
      | true =>
        go_wp2_with fail
        go_ret
        exact ⟨by rw [HR.out]; rfl, S5.out.bel⟩
      | false =>
      by_cases gl : 0 < el.length
      · have hl : decide (0 < el.length) = true := decide_eq_true gl
        have xl : (el.length == 0) = false := by rw [beq_eq_false_iff_ne]; omega
        rw [xl] at HR; clear xl
        go_wp2_with fail
        go_ret
        exact ⟨by rw [HR.out]; rfl, S5.out.bel⟩
      have hl : decide (0 < el.length) = false := decide_eq_false gl
      have xl : (el.length == 0) = true := by rw [beq_iff_eq]; omega
      rw [xl] at HR; clear xl
      by_cases gm : 0 < e2.length
      · have hm : decide (0 < e2.length) = true := decide_eq_true gm
        have xm : (e2.length == 0) = false := by rw [beq_eq_false_iff_ne]; omega
        rw [xm] at HR; clear xm
        go_wp2_with fail
        go_ret
        exact ⟨by rw [HR.out]; rfl, S5.out.bel⟩
      have hm : decide (0 < e2.length) = false := decide_eq_false gm
      have xm : (e2.length == 0) = true := by rw [beq_iff_eq]; omega
      rw [xm] at HR; clear xm
      go_wp2_with fail
      refine (K_bd.out _ (S5.out.on HW.out)).mono ?_
      rintro e w6 ⟨rfl, b6⟩
      have S6 := Lib.hid (S5.out.step b6)
      clear b6 cA
      have cA := box_cells S6.out.a
      cases BD with
      | false =>
        go_wp2_with fail
        go_ret
        exact ⟨by rw [HR.out]; rfl, S6.out.bel⟩
      | true =>
      go_wp2_with fail
      refine (K_el.out _ (S6.out.on HW.out)).mono ?_
      rintro e w7 ⟨rfl, b7⟩
      have S7 := Lib.hid (S6.out.step b7)
      clear b7 cA
      have cA := box_cells S7.out.a
      cases EL with
      | false =>
        go_wp2_with fail
        go_ret
        exact ⟨by rw [HR.out]; rfl, S7.out.bel⟩
      | true =>
      go_wp2_with fail
      go_ret
      exact ⟨by rw [HR.out]; rfl, S7.out.bel⟩
set_option maxRecDepth 100000 in
set_option maxHeartbeats 8000000 in
theorem rst_6 (w0 : World) (d : Int) (dp : Nat) (hdp : dp ≤ 48) (m0 m1 : List (List D)) (nm : ByteArray) (pop pn : Int) (pnm pfd : ByteArray) (pl ex : List (List D)) (dn mo : Bool) (bd el en e2 : List (List D)) (m0a : Option Addr) (m0c : Nat) (m1a : Option Addr) (m1c : Nat) (pla : Option Addr) (plc : Nat) (exa : Option Addr) (exc : Nat) (bda : Option Addr) (bdc : Nat) (ela : Option Addr) (elc : Nat) (ena : Option Addr) (enc : Nat) (e2a : Option Addr) (e2c : Nat) (M EN E2 P NM BD EL R : Bool) (gx : List D → Bool)
    (q_m : Says w0 31 #[.agg #[.slice m0a m0.length m0c, .slice m1a m1.length m1c]] (.bool M)) (q_en : Says w0 30 #[.slice ena en.length enc] (.bool EN)) (q_e2 : Says w0 30 #[.slice e2a e2.length e2c] (.bool E2)) (q_p : Says w0 120 #[.agg #[.int .i64 pop, .int .i64 pn, .string pnm, .string pfd, .slice pla pl.length plc]] (.bool P)) (q_nm : Says w0 29 #[.int .i64 d, .string nm] (.bool NM))
    (q_bd : Says w0 34 #[.int .i64 d, .slice bda bd.length bdc, .int .i64 ((dp + 1 : Nat) : Int)] (.bool BD)) (q_el : Says w0 34 #[.int .i64 d, .slice ela el.length elc, .int .i64 ((dp + 1 : Nat) : Int)] (.bool EL))
    (q_x : ∀ x ∈ ex, ∀ vs, AllAt w0 vs x → Says w0 10 #[.int .i64 d, .agg ⟨vs⟩] (.bool (gx x))) (a_ex : At w0 (.slice exa ex.length exc) (.row ex)) (t_ex : ∀ x ∈ ex, ShE x)
    (hR : R = (M && (EN && (E2 && (wthn ex.length 2 2 && (ex.all gx && (P && (NM && ((!mo && ((el.length == 0) && (e2.length == 0))) && (true && (BD && EL))))))))))) (w : World) (hW : Below w0.heap.size w0 w) :
    Calls Tryz.prog 81 #[.int .i64 d, .agg #[.slice m0a m0.length m0c, .slice m1a m1.length m1c, .int .i64 6, .string nm, .int .i64 pop, .int .i64 pn, .string pnm, .string pfd, .slice pla pl.length plc, .slice exa ex.length exc, .bool dn, .bool mo, .slice bda bd.length bdc, .slice ela el.length elc, .slice ena en.length enc, .slice e2a e2.length e2c], .int .i64 dp] w fun e w' => e = .returned (.bool R) ∧ Below w.heap.size w w' := by
  have K_m := Lib.hid q_m
  have K_en := Lib.hid q_en
  have K_e2 := Lib.hid q_e2
  have K_p := Lib.hid q_p
  have K_nm := Lib.hid q_nm
  have K_bd := Lib.hid q_bd
  have K_el := Lib.hid q_el
  have K_x := Lib.hid q_x
  have HA := Lib.hid a_ex
  have HS := Lib.hid t_ex
  have HW := Lib.hid hW
  have HR := Lib.hid hR
  have hle := a_ex.len_le
  have S0 := Lib.hid (Bx1.start w (.cells #[.slice m0a m0.length m0c, .slice m1a m1.length m1c, .int .i64 6, .string nm, .int .i64 pop, .int .i64 pn, .string pnm, .string pfd, .slice pla pl.length plc, .slice exa ex.length exc, .bool dn, .bool mo, .slice bda bd.length bdc, .slice ela el.length elc, .slice ena en.length enc, .slice e2a e2.length e2c] 84))
  have hdp2 : decide ((48 : Int) < (dp : Int)) = false := by simp; omega
  clear q_m q_en q_e2 q_p q_nm q_bd q_el q_x a_ex t_ex hW hR
  go_enter Tryz.func81, Tryz.ntmps81
  go_wp2_with fail
  refine (K_m.out _ (S0.out.on HW.out)).mono ?_
  rintro e w1 ⟨rfl, b1⟩
  have S1 := Lib.hid (S0.out.step b1)
  clear b1
  have cA := box_cells S1.out.a
  cases M with
  | false =>
    go_wp2_with fail
    go_ret
    exact ⟨by rw [HR.out]; rfl, S1.out.bel⟩
  | true =>
  go_wp2_with fail
  refine (K_en.out _ (S1.out.on HW.out)).mono ?_
  rintro e w2 ⟨rfl, b2⟩
  have S2 := Lib.hid (S1.out.step b2)
  clear b2 cA
  have cA := box_cells S2.out.a
  cases EN with
  | false =>
    go_wp2_with fail
    go_ret
    exact ⟨by rw [HR.out]; rfl, S2.out.bel⟩
  | true =>
  go_wp2_with fail
  refine (K_e2.out _ (S2.out.on HW.out)).mono ?_
  rintro e w3 ⟨rfl, b3⟩
  have S3 := Lib.hid (S2.out.step b3)
  clear b3 cA
  have cA := box_cells S3.out.a
  cases E2 with
  | false =>
    go_wp2_with fail
    go_ret
    exact ⟨by rw [HR.out]; rfl, S3.out.bel⟩
  | true =>
  by_cases hlo : (ex.length : Int) < 2
  · have hl1 : decide ((ex.length : Int) < 2) = true := decide_eq_true hlo
    have hwt : wthn ex.length 2 2 = false := by unfold wthn; rw [decide_eq_false (show ¬ ((2 : Int) ≤ (ex.length : Int)) by omega), Bool.false_and]
    rw [hwt] at HR
    have hl2 : decide (ex.length < 2) = true := decide_eq_true (by omega)
    go_wp2_with fail
    go_ret
    exact ⟨by rw [HR.out]; rfl, S3.out.bel⟩
  by_cases hhi : (2 : Int) < ex.length
  · have hl1 : decide ((ex.length : Int) < 2) = false := decide_eq_false hlo
    have hl3 : decide ((2 : Int) < ex.length) = true := decide_eq_true hhi
    have hl2 : decide (ex.length < 2) = false := decide_eq_false (by omega)
    have hl4 : decide (2 < ex.length) = true := decide_eq_true (by omega)
    have hwt : wthn ex.length 2 2 = false := by unfold wthn; rw [decide_eq_false (show ¬ ((ex.length : Int) ≤ 2) by omega), Bool.and_false]
    rw [hwt] at HR
    go_wp2_with fail
    go_ret
    exact ⟨by rw [HR.out]; rfl, S3.out.bel⟩
  have hl1 : decide ((ex.length : Int) < 2) = false := decide_eq_false hlo
  have hl3 : decide ((2 : Int) < ex.length) = false := decide_eq_false hhi
  have hl2 : decide (ex.length < 2) = false := decide_eq_false (by omega)
  have hl4 : decide (2 < ex.length) = false := decide_eq_false (by omega)
  have hwt : wthn ex.length 2 2 = true := by unfold wthn; rw [decide_eq_true (show ((2 : Int) ≤ (ex.length : Int)) by omega), decide_eq_true (show ((ex.length : Int) ≤ 2) by omega)]; rfl
  rw [hwt] at HR; clear hwt
  go_wp2_with fail
  go_loopw [9] (fun i wr => ∃ k : Nat, k ≤ ex.length ∧ i = .int .i64 k ∧ Hid ((ex.take k).all gx = true) ∧ Hid (Bx1 w (.cells #[.slice m0a m0.length m0c, .slice m1a m1.length m1c, .int .i64 6, .string nm, .int .i64 pop, .int .i64 pn, .string pnm, .string pfd, .slice pla pl.length plc, .slice exa ex.length exc, .bool dn, .bool mo, .slice bda bd.length bdc, .slice ela el.length elc, .slice ena en.length enc, .slice e2a e2.length e2c] 84) wr)) (fun i _ => ex.length - (intOf i).toNat)
  case atStart => exact ⟨0, Nat.zero_le _, rfl, Lib.hid rfl, Lib.hid S3.out⟩
  case round =>
    obtain ⟨k, hk, rfl, HT, SW⟩ := hrel
    clear cA
    have cA := box_cells SW.out.a
    by_cases hlt : k < ex.length
    · obtain ⟨b, o, vs, ds, rfl, hbl, hx, hv, hc⟩ := HA.out.elem hlt
      have qx := Lib.hid (K_x.out ds (List.mem_of_getElem? hx) vs hv)
      obtain ⟨xop, xn, xnm, xfd, kl, kla, klc, hds, hvs, _⟩ := hv.openE (HS.out _ (List.mem_of_getElem? hx))
      subst hvs
      have hdl : ds.length = 5 := by rw [hds]; rfl
      rw [hdl] at hc
      have B0 := SW.out.on HW.out
      have hbw : b < wr.heap.size := Nat.lt_of_lt_of_le hbl B0.size
      have c0 := (B0.cell (p := ⟨b, o + k * 5, none⟩) hbl).trans (hc 0 _ rfl)
      have c1 := (B0.cell (p := ⟨b, o + k * 5 + 1, none⟩) hbl).trans (hc 1 _ rfl)
      have c2 := (B0.cell (p := ⟨b, o + k * 5 + 2, none⟩) hbl).trans (hc 2 _ rfl)
      have c3 := (B0.cell (p := ⟨b, o + k * 5 + 3, none⟩) hbl).trans (hc 3 _ rfl)
      have c4 := (B0.cell (p := ⟨b, o + k * 5 + 4, none⟩) hbl).trans (hc 4 _ rfl)
      have C0 := Lib.hid (hc 0 _ rfl)
      have HX := Lib.hid hx
      have HOP := Lib.hid (show opD ds = xop by rw [hds]; rfl)
      clear hx hds hdl hc B0 hv
      go_wp2_with fail
      refine (qx.out _ (SW.out.on HW.out)).mono ?_
      rintro e v1 ⟨rfl, bv⟩
      have SV := Lib.hid (SW.out.step bv)
      clear bv cA c0 c1 c2 c3 c4
      have cA := box_cells SV.out.a
      have B1 := SV.out.on HW.out
      have hbw1 : b < v1.heap.size := Nat.lt_of_lt_of_le hbl B1.size
      have c0 := (B1.cell (p := ⟨b, o + k * 5, none⟩) hbl).trans C0.out
      clear B1
      cases hg : gx ds with
      | false =>
        have hal : ex.all gx = false := by rw [List.all_eq_false]; exact ⟨ds, List.mem_of_getElem? HX.out, by simp [hg]⟩
        rw [hal] at HR; clear hg hal
        go_wp2_with fail
        go_ret
        exact ⟨by rw [HR.out]; rfl, SV.out.bel⟩
      | true =>
      have HE := Lib.hid (all_take_succ (f := gx) HX.out HT.out hg)
      clear hg
      go_wp2_with fail
      go_roundw
      case rel => exact ⟨k + 1, by omega, by go_num, HE, SV⟩
      case measure => simp [intOf]; omega
    · obtain rfl : k = ex.length := by omega
      have hal := HT.out
      rw [List.take_length] at hal
      rw [hal] at HR; clear hal
      have S4 := SW
      go_wp2_with fail
      refine (K_p.out _ (S4.out.on HW.out)).mono ?_
      rintro e w5 ⟨rfl, b5⟩
      have S5 := Lib.hid (S4.out.step b5)
      clear b5 cA
      have cA := box_cells S5.out.a
      cases P with
      | false =>
        go_wp2_with fail
        go_ret
        exact ⟨by rw [HR.out]; rfl, S5.out.bel⟩
      | true =>
      go_wp2_with fail
      refine (K_nm.out _ (S5.out.on HW.out)).mono ?_
      rintro e w6 ⟨rfl, b6⟩
      have S6 := Lib.hid (S5.out.step b6)
      clear b6 cA
      have cA := box_cells S6.out.a
      cases NM with
      | false =>
        go_wp2_with fail
        go_ret
        exact ⟨by rw [HR.out]; rfl, S6.out.bel⟩
      | true =>
      cases mo with
      | true =>
        go_wp2_with fail
        go_ret
        exact ⟨by rw [HR.out]; rfl, S6.out.bel⟩
      | false =>
      by_cases gl : 0 < el.length
      · have hl : decide (0 < el.length) = true := decide_eq_true gl
        have xl : (el.length == 0) = false := by rw [beq_eq_false_iff_ne]; omega
        rw [xl] at HR; clear xl
        go_wp2_with fail
        go_ret
        exact ⟨by rw [HR.out]; rfl, S6.out.bel⟩
      have hl : decide (0 < el.length) = false := decide_eq_false gl
      have xl : (el.length == 0) = true := by rw [beq_iff_eq]; omega
      rw [xl] at HR; clear xl
      by_cases gm : 0 < e2.length
      · have hm : decide (0 < e2.length) = true := decide_eq_true gm
        have xm : (e2.length == 0) = false := by rw [beq_eq_false_iff_ne]; omega
        rw [xm] at HR; clear xm
        go_wp2_with fail
        go_ret
        exact ⟨by rw [HR.out]; rfl, S6.out.bel⟩
      have hm : decide (0 < e2.length) = false := decide_eq_false gm
      have xm : (e2.length == 0) = true := by rw [beq_iff_eq]; omega
      rw [xm] at HR; clear xm
      go_wp2_with fail
      refine (K_bd.out _ (S6.out.on HW.out)).mono ?_
      rintro e w7 ⟨rfl, b7⟩
      have S7 := Lib.hid (S6.out.step b7)
      clear b7 cA
      have cA := box_cells S7.out.a
      cases BD with
      | false =>
        go_wp2_with fail
        go_ret
        exact ⟨by rw [HR.out]; rfl, S7.out.bel⟩
      | true =>
      go_wp2_with fail
      refine (K_el.out _ (S7.out.on HW.out)).mono ?_
      rintro e w8 ⟨rfl, b8⟩
      have S8 := Lib.hid (S7.out.step b8)
      clear b8 cA
      have cA := box_cells S8.out.a
      cases EL with
      | false =>
        go_wp2_with fail
        go_ret
        exact ⟨by rw [HR.out]; rfl, S8.out.bel⟩
      | true =>
      go_wp2_with fail
      go_ret
      exact ⟨by rw [HR.out]; rfl, S8.out.bel⟩
end Go.Proofs.YtciijpahjjoppaaGreat
end
section
namespace Go.Proofs.YtciijpahjjoppaaGreat
open Go.RowKit Go.Deep Go.Maps

set_option maxRecDepth 100000 in
set_option maxHeartbeats 8000000 in
theorem rst_8 (w0 : World) (d : Int) (dp : Nat) (hdp : dp ≤ 48) (m0 m1 : List (List D)) (nm : ByteArray) (pop pn : Int) (pnm pfd : ByteArray) (pl ex : List (List D)) (dn mo : Bool) (bd el en e2 : List (List D)) (m0a : Option Addr) (m0c : Nat) (m1a : Option Addr) (m1c : Nat) (pla : Option Addr) (plc : Nat) (exa : Option Addr) (exc : Nat) (bda : Option Addr) (bdc : Nat) (ela : Option Addr) (elc : Nat) (ena : Option Addr) (enc : Nat) (e2a : Option Addr) (e2c : Nat) (M EN E2 P NM BD EL R : Bool) (gx : List D → Bool)
    (q_m : Says w0 31 #[.agg #[.slice m0a m0.length m0c, .slice m1a m1.length m1c]] (.bool M)) (q_en : Says w0 30 #[.slice ena en.length enc] (.bool EN)) (q_e2 : Says w0 30 #[.slice e2a e2.length e2c] (.bool E2)) (q_p : Says w0 120 #[.agg #[.int .i64 pop, .int .i64 pn, .string pnm, .string pfd, .slice pla pl.length plc]] (.bool P)) (q_nm : Says w0 29 #[.int .i64 d, .string nm] (.bool NM))
    (q_bd : Says w0 34 #[.int .i64 d, .slice bda bd.length bdc, .int .i64 ((dp + 1 : Nat) : Int)] (.bool BD)) (q_el : Says w0 34 #[.int .i64 d, .slice ela el.length elc, .int .i64 ((dp + 1 : Nat) : Int)] (.bool EL))
    (q_x : ∀ x ∈ ex, ∀ vs, AllAt w0 vs x → Says w0 10 #[.int .i64 d, .agg ⟨vs⟩] (.bool (gx x))) (a_ex : At w0 (.slice exa ex.length exc) (.row ex)) (t_ex : ∀ x ∈ ex, ShE x)
    (hR : R = (M && (EN && (E2 && (wthn ex.length 1 1 && (ex.all gx && (P && ((nm.toList.isEmpty && !dn) && ((!mo && ((el.length == 0) && (e2.length == 0))) && (((bd.length == 0) && (en.length == 0)) && (BD && EL))))))))))) (w : World) (hW : Below w0.heap.size w0 w) :
    Calls Tryz.prog 81 #[.int .i64 d, .agg #[.slice m0a m0.length m0c, .slice m1a m1.length m1c, .int .i64 8, .string nm, .int .i64 pop, .int .i64 pn, .string pnm, .string pfd, .slice pla pl.length plc, .slice exa ex.length exc, .bool dn, .bool mo, .slice bda bd.length bdc, .slice ela el.length elc, .slice ena en.length enc, .slice e2a e2.length e2c], .int .i64 dp] w fun e w' => e = .returned (.bool R) ∧ Below w.heap.size w w' := by
  have K_m := Lib.hid q_m
  have K_en := Lib.hid q_en
  have K_e2 := Lib.hid q_e2
  have K_p := Lib.hid q_p
  have K_nm := Lib.hid q_nm
  have K_bd := Lib.hid q_bd
  have K_el := Lib.hid q_el
  have K_x := Lib.hid q_x
  have HA := Lib.hid a_ex
  have HS := Lib.hid t_ex
  have HW := Lib.hid hW
  have HR := Lib.hid hR
  have hle := a_ex.len_le
  have S0 := Lib.hid (Bx1.start w (.cells #[.slice m0a m0.length m0c, .slice m1a m1.length m1c, .int .i64 8, .string nm, .int .i64 pop, .int .i64 pn, .string pnm, .string pfd, .slice pla pl.length plc, .slice exa ex.length exc, .bool dn, .bool mo, .slice bda bd.length bdc, .slice ela el.length elc, .slice ena en.length enc, .slice e2a e2.length e2c] 84))
  have hdp2 : decide ((48 : Int) < (dp : Int)) = false := by simp; omega
  clear q_m q_en q_e2 q_p q_nm q_bd q_el q_x a_ex t_ex hW hR
  go_enter Tryz.func81, Tryz.ntmps81
  go_wp2_with fail
  refine (K_m.out _ (S0.out.on HW.out)).mono ?_
  rintro e w1 ⟨rfl, b1⟩
  have S1 := Lib.hid (S0.out.step b1)
  clear b1
  have cA := box_cells S1.out.a
  cases M with
  | false =>
    go_wp2_with fail
    go_ret
    exact ⟨by rw [HR.out]; rfl, S1.out.bel⟩
  | true =>
  go_wp2_with fail
  refine (K_en.out _ (S1.out.on HW.out)).mono ?_
  rintro e w2 ⟨rfl, b2⟩
  have S2 := Lib.hid (S1.out.step b2)
  clear b2 cA
  have cA := box_cells S2.out.a
  cases EN with
  | false =>
    go_wp2_with fail
    go_ret
    exact ⟨by rw [HR.out]; rfl, S2.out.bel⟩
  | true =>
  go_wp2_with fail
  refine (K_e2.out _ (S2.out.on HW.out)).mono ?_
  rintro e w3 ⟨rfl, b3⟩
  have S3 := Lib.hid (S2.out.step b3)
  clear b3 cA
  have cA := box_cells S3.out.a
  cases E2 with
  | false =>
    go_wp2_with fail
    go_ret
    exact ⟨by rw [HR.out]; rfl, S3.out.bel⟩
  | true =>
  by_cases hlo : (ex.length : Int) < 1
  · have hl1 : decide ((ex.length : Int) < 1) = true := decide_eq_true hlo
    have hwt : wthn ex.length 1 1 = false := by unfold wthn; rw [decide_eq_false (show ¬ ((1 : Int) ≤ (ex.length : Int)) by omega), Bool.false_and]
    rw [hwt] at HR
    have hl2 : decide (ex.length < 1) = true := decide_eq_true (by omega)
    go_wp2_with fail
    go_ret
    exact ⟨by rw [HR.out]; rfl, S3.out.bel⟩
  by_cases hhi : (1 : Int) < ex.length
  · have hl1 : decide ((ex.length : Int) < 1) = false := decide_eq_false hlo
    have hl3 : decide ((1 : Int) < ex.length) = true := decide_eq_true hhi
    have hl2 : decide (ex.length < 1) = false := decide_eq_false (by omega)
    have hl4 : decide (1 < ex.length) = true := decide_eq_true (by omega)
    have hwt : wthn ex.length 1 1 = false := by unfold wthn; rw [decide_eq_false (show ¬ ((ex.length : Int) ≤ 1) by omega), Bool.and_false]
    rw [hwt] at HR
    go_wp2_with fail
    go_ret
    exact ⟨by rw [HR.out]; rfl, S3.out.bel⟩
  have hl1 : decide ((ex.length : Int) < 1) = false := decide_eq_false hlo
  have hl3 : decide ((1 : Int) < ex.length) = false := decide_eq_false hhi
  have hl2 : decide (ex.length < 1) = false := decide_eq_false (by omega)
  have hl4 : decide (1 < ex.length) = false := decide_eq_false (by omega)
  have hwt : wthn ex.length 1 1 = true := by unfold wthn; rw [decide_eq_true (show ((1 : Int) ≤ (ex.length : Int)) by omega), decide_eq_true (show ((ex.length : Int) ≤ 1) by omega)]; rfl
  rw [hwt] at HR; clear hwt
  go_wp2_with fail
  go_loopw [9] (fun i wr => ∃ k : Nat, k ≤ ex.length ∧ i = .int .i64 k ∧ Hid ((ex.take k).all gx = true) ∧ Hid (Bx1 w (.cells #[.slice m0a m0.length m0c, .slice m1a m1.length m1c, .int .i64 8, .string nm, .int .i64 pop, .int .i64 pn, .string pnm, .string pfd, .slice pla pl.length plc, .slice exa ex.length exc, .bool dn, .bool mo, .slice bda bd.length bdc, .slice ela el.length elc, .slice ena en.length enc, .slice e2a e2.length e2c] 84) wr)) (fun i _ => ex.length - (intOf i).toNat)
  case atStart => exact ⟨0, Nat.zero_le _, rfl, Lib.hid rfl, Lib.hid S3.out⟩
  case round =>
    obtain ⟨k, hk, rfl, HT, SW⟩ := hrel
    clear cA
    have cA := box_cells SW.out.a
    by_cases hlt : k < ex.length
    · obtain ⟨b, o, vs, ds, rfl, hbl, hx, hv, hc⟩ := HA.out.elem hlt
      have qx := Lib.hid (K_x.out ds (List.mem_of_getElem? hx) vs hv)
      obtain ⟨xop, xn, xnm, xfd, kl, kla, klc, hds, hvs, _⟩ := hv.openE (HS.out _ (List.mem_of_getElem? hx))
      subst hvs
      have hdl : ds.length = 5 := by rw [hds]; rfl
      rw [hdl] at hc
      have B0 := SW.out.on HW.out
      have hbw : b < wr.heap.size := Nat.lt_of_lt_of_le hbl B0.size
      have c0 := (B0.cell (p := ⟨b, o + k * 5, none⟩) hbl).trans (hc 0 _ rfl)
      have c1 := (B0.cell (p := ⟨b, o + k * 5 + 1, none⟩) hbl).trans (hc 1 _ rfl)
      have c2 := (B0.cell (p := ⟨b, o + k * 5 + 2, none⟩) hbl).trans (hc 2 _ rfl)
      have c3 := (B0.cell (p := ⟨b, o + k * 5 + 3, none⟩) hbl).trans (hc 3 _ rfl)
      have c4 := (B0.cell (p := ⟨b, o + k * 5 + 4, none⟩) hbl).trans (hc 4 _ rfl)
      have C0 := Lib.hid (hc 0 _ rfl)
      have HX := Lib.hid hx
      have HOP := Lib.hid (show opD ds = xop by rw [hds]; rfl)
      clear hx hds hdl hc B0 hv
      go_wp2_with fail
      refine (qx.out _ (SW.out.on HW.out)).mono ?_
      rintro e v1 ⟨rfl, bv⟩
      have SV := Lib.hid (SW.out.step bv)
      clear bv cA c0 c1 c2 c3 c4
      have cA := box_cells SV.out.a
      have B1 := SV.out.on HW.out
      have hbw1 : b < v1.heap.size := Nat.lt_of_lt_of_le hbl B1.size
      have c0 := (B1.cell (p := ⟨b, o + k * 5, none⟩) hbl).trans C0.out
      clear B1
      cases hg : gx ds with
      | false =>
        have hal : ex.all gx = false := by rw [List.all_eq_false]; exact ⟨ds, List.mem_of_getElem? HX.out, by simp [hg]⟩
        rw [hal] at HR; clear hg hal
        go_wp2_with fail
        go_ret
        exact ⟨by rw [HR.out]; rfl, SV.out.bel⟩
      | true =>
      have HE := Lib.hid (all_take_succ (f := gx) HX.out HT.out hg)
      clear hg
      go_wp2_with fail
      go_roundw
      case rel => exact ⟨k + 1, by omega, by go_num, HE, SV⟩
      case measure => simp [intOf]; omega
    · obtain rfl : k = ex.length := by omega
      have hal := HT.out
      rw [List.take_length] at hal
      rw [hal] at HR; clear hal
      have S4 := SW
      go_wp2_with fail
      refine (K_p.out _ (S4.out.on HW.out)).mono ?_
      rintro e w5 ⟨rfl, b5⟩
      have S5 := Lib.hid (S4.out.step b5)
      clear b5 cA
      have cA := box_cells S5.out.a
      cases P with
      | false =>
        go_wp2_with fail
        go_ret
        exact ⟨by rw [HR.out]; rfl, S5.out.bel⟩
      | true =>
      cases hnm : nm.toList.isEmpty with
      | false =>
        rw [hnm] at HR
        have hnm2 : (nm.toList == []) = false := by rw [← hnm]; cases nm.toList <;> rfl
        go_wp2_with fail
        go_ret
        exact ⟨by rw [HR.out]; rfl, S5.out.bel⟩
      | true =>
      rw [hnm] at HR
      have hnm2 : (nm.toList == []) = true := by rw [← hnm]; cases nm.toList <;> rfl
      cases dn with
      | true =>
        go_wp2_with fail
        go_ret
        exact ⟨by rw [HR.out]; rfl, S5.out.bel⟩
      | false =>
      cases mo with
      | true =>
        go_wp2_with fail
        go_ret
        exact ⟨by rw [HR.out]; rfl, S5.out.bel⟩
      | false =>
      by_cases gl : 0 < el.length
      · have hl : decide (0 < el.length) = true := decide_eq_true gl
        have xl : (el.length == 0) = false := by rw [beq_eq_false_iff_ne]; omega
        rw [xl] at HR; clear xl
        go_wp2_with fail
        go_ret
        exact ⟨by rw [HR.out]; rfl, S5.out.bel⟩
      have hl : decide (0 < el.length) = false := decide_eq_false gl
      have xl : (el.length == 0) = true := by rw [beq_iff_eq]; omega
      rw [xl] at HR; clear xl
      by_cases gm : 0 < e2.length
      · have hm : decide (0 < e2.length) = true := decide_eq_true gm
        have xm : (e2.length == 0) = false := by rw [beq_eq_false_iff_ne]; omega
        rw [xm] at HR; clear xm
        go_wp2_with fail
        go_ret
        exact ⟨by rw [HR.out]; rfl, S5.out.bel⟩
      have hm : decide (0 < e2.length) = false := decide_eq_false gm
      have xm : (e2.length == 0) = true := by rw [beq_iff_eq]; omega
      rw [xm] at HR; clear xm
      by_cases gb : 0 < bd.length
      · have hb : decide (0 < bd.length) = true := decide_eq_true gb
        have xb : (bd.length == 0) = false := by rw [beq_eq_false_iff_ne]; omega
        rw [xb] at HR; clear xb
        go_wp2_with fail
        go_ret
        exact ⟨by rw [HR.out]; rfl, S5.out.bel⟩
      have hb : decide (0 < bd.length) = false := decide_eq_false gb
      have xb : (bd.length == 0) = true := by rw [beq_iff_eq]; omega
      rw [xb] at HR; clear xb
      by_cases gn : 0 < en.length
      · have hn : decide (0 < en.length) = true := decide_eq_true gn
        have xn : (en.length == 0) = false := by rw [beq_eq_false_iff_ne]; omega
        rw [xn] at HR; clear xn
        go_wp2_with fail
        go_ret
        exact ⟨by rw [HR.out]; rfl, S5.out.bel⟩
      have hn : decide (0 < en.length) = false := decide_eq_false gn
      have xn : (en.length == 0) = true := by rw [beq_iff_eq]; omega
      rw [xn] at HR; clear xn
      go_wp2_with fail
      refine (K_bd.out _ (S5.out.on HW.out)).mono ?_
      rintro e w6 ⟨rfl, b6⟩
      have S6 := Lib.hid (S5.out.step b6)
      clear b6 cA
      have cA := box_cells S6.out.a
      cases BD with
      | false =>
        go_wp2_with fail
        go_ret
        exact ⟨by rw [HR.out]; rfl, S6.out.bel⟩
      | true =>
      go_wp2_with fail
      refine (K_el.out _ (S6.out.on HW.out)).mono ?_
      rintro e w7 ⟨rfl, b7⟩
      have S7 := Lib.hid (S6.out.step b7)
      clear b7 cA
      have cA := box_cells S7.out.a
      cases EL with
      | false =>
        go_wp2_with fail
        go_ret
        exact ⟨by rw [HR.out]; rfl, S7.out.bel⟩
      | true =>
      go_wp2_with fail
      go_ret
      exact ⟨by rw [HR.out]; rfl, S7.out.bel⟩
set_option maxRecDepth 100000 in
set_option maxHeartbeats 8000000 in
theorem rst_9 (w0 : World) (d : Int) (dp : Nat) (hdp : dp ≤ 48) (m0 m1 : List (List D)) (nm : ByteArray) (pop pn : Int) (pnm pfd : ByteArray) (pl ex : List (List D)) (dn mo : Bool) (bd el en e2 : List (List D)) (m0a : Option Addr) (m0c : Nat) (m1a : Option Addr) (m1c : Nat) (pla : Option Addr) (plc : Nat) (exa : Option Addr) (exc : Nat) (bda : Option Addr) (bdc : Nat) (ela : Option Addr) (elc : Nat) (ena : Option Addr) (enc : Nat) (e2a : Option Addr) (e2c : Nat) (M EN E2 P NM BD EL R : Bool) (gx : List D → Bool)
    (q_m : Says w0 31 #[.agg #[.slice m0a m0.length m0c, .slice m1a m1.length m1c]] (.bool M)) (q_en : Says w0 30 #[.slice ena en.length enc] (.bool EN)) (q_e2 : Says w0 30 #[.slice e2a e2.length e2c] (.bool E2)) (q_p : Says w0 120 #[.agg #[.int .i64 pop, .int .i64 pn, .string pnm, .string pfd, .slice pla pl.length plc]] (.bool P)) (q_nm : Says w0 29 #[.int .i64 d, .string nm] (.bool NM))
    (q_bd : Says w0 34 #[.int .i64 d, .slice bda bd.length bdc, .int .i64 ((dp + 1 : Nat) : Int)] (.bool BD)) (q_el : Says w0 34 #[.int .i64 d, .slice ela el.length elc, .int .i64 ((dp + 1 : Nat) : Int)] (.bool EL))
    (q_x : ∀ x ∈ ex, ∀ vs, AllAt w0 vs x → Says w0 10 #[.int .i64 d, .agg ⟨vs⟩] (.bool (gx x))) (a_ex : At w0 (.slice exa ex.length exc) (.row ex)) (t_ex : ∀ x ∈ ex, ShE x)
    (hR : R = (M && (EN && (E2 && (wthn ex.length 0 1 && (ex.all gx && (P && ((nm.toList.isEmpty && !dn) && ((!mo && ((el.length == 0) && (e2.length == 0))) && (((bd.length == 0) && (en.length == 0)) && (BD && EL))))))))))) (w : World) (hW : Below w0.heap.size w0 w) :
    Calls Tryz.prog 81 #[.int .i64 d, .agg #[.slice m0a m0.length m0c, .slice m1a m1.length m1c, .int .i64 9, .string nm, .int .i64 pop, .int .i64 pn, .string pnm, .string pfd, .slice pla pl.length plc, .slice exa ex.length exc, .bool dn, .bool mo, .slice bda bd.length bdc, .slice ela el.length elc, .slice ena en.length enc, .slice e2a e2.length e2c], .int .i64 dp] w fun e w' => e = .returned (.bool R) ∧ Below w.heap.size w w' := by
  have K_m := Lib.hid q_m
  have K_en := Lib.hid q_en
  have K_e2 := Lib.hid q_e2
  have K_p := Lib.hid q_p
  have K_nm := Lib.hid q_nm
  have K_bd := Lib.hid q_bd
  have K_el := Lib.hid q_el
  have K_x := Lib.hid q_x
  have HA := Lib.hid a_ex
  have HS := Lib.hid t_ex
  have HW := Lib.hid hW
  have HR := Lib.hid hR
  have hle := a_ex.len_le
  have S0 := Lib.hid (Bx1.start w (.cells #[.slice m0a m0.length m0c, .slice m1a m1.length m1c, .int .i64 9, .string nm, .int .i64 pop, .int .i64 pn, .string pnm, .string pfd, .slice pla pl.length plc, .slice exa ex.length exc, .bool dn, .bool mo, .slice bda bd.length bdc, .slice ela el.length elc, .slice ena en.length enc, .slice e2a e2.length e2c] 84))
  have hdp2 : decide ((48 : Int) < (dp : Int)) = false := by simp; omega
  clear q_m q_en q_e2 q_p q_nm q_bd q_el q_x a_ex t_ex hW hR
  go_enter Tryz.func81, Tryz.ntmps81
  go_wp2_with fail
  refine (K_m.out _ (S0.out.on HW.out)).mono ?_
  rintro e w1 ⟨rfl, b1⟩
  have S1 := Lib.hid (S0.out.step b1)
  clear b1
  have cA := box_cells S1.out.a
  cases M with
  | false =>
    go_wp2_with fail
    go_ret
    exact ⟨by rw [HR.out]; rfl, S1.out.bel⟩
  | true =>
  go_wp2_with fail
  refine (K_en.out _ (S1.out.on HW.out)).mono ?_
  rintro e w2 ⟨rfl, b2⟩
  have S2 := Lib.hid (S1.out.step b2)
  clear b2 cA
  have cA := box_cells S2.out.a
  cases EN with
  | false =>
    go_wp2_with fail
    go_ret
    exact ⟨by rw [HR.out]; rfl, S2.out.bel⟩
  | true =>
  go_wp2_with fail
  refine (K_e2.out _ (S2.out.on HW.out)).mono ?_
  rintro e w3 ⟨rfl, b3⟩
  have S3 := Lib.hid (S2.out.step b3)
  clear b3 cA
  have cA := box_cells S3.out.a
  cases E2 with
  | false =>
    go_wp2_with fail
    go_ret
    exact ⟨by rw [HR.out]; rfl, S3.out.bel⟩
  | true =>
  by_cases hlo : (ex.length : Int) < 0
  · have hl1 : decide ((ex.length : Int) < 0) = true := decide_eq_true hlo
    have hwt : wthn ex.length 0 1 = false := by unfold wthn; rw [decide_eq_false (show ¬ ((0 : Int) ≤ (ex.length : Int)) by omega), Bool.false_and]
    rw [hwt] at HR
    omega
  by_cases hhi : (1 : Int) < ex.length
  · have hl1 : decide ((ex.length : Int) < 0) = false := decide_eq_false hlo
    have hl3 : decide ((1 : Int) < ex.length) = true := decide_eq_true hhi
    have hl4 : decide (1 < ex.length) = true := decide_eq_true (by omega)
    have hwt : wthn ex.length 0 1 = false := by unfold wthn; rw [decide_eq_false (show ¬ ((ex.length : Int) ≤ 1) by omega), Bool.and_false]
    rw [hwt] at HR
    go_wp2_with fail
    go_ret
    exact ⟨by rw [HR.out]; rfl, S3.out.bel⟩
  have hl1 : decide ((ex.length : Int) < 0) = false := decide_eq_false hlo
  have hl3 : decide ((1 : Int) < ex.length) = false := decide_eq_false hhi
  have hl4 : decide (1 < ex.length) = false := decide_eq_false (by omega)
  have hwt : wthn ex.length 0 1 = true := by unfold wthn; rw [decide_eq_true (show ((0 : Int) ≤ (ex.length : Int)) by omega), decide_eq_true (show ((ex.length : Int) ≤ 1) by omega)]; rfl
  rw [hwt] at HR; clear hwt
  go_wp2_with fail
  go_loopw [9] (fun i wr => ∃ k : Nat, k ≤ ex.length ∧ i = .int .i64 k ∧ Hid ((ex.take k).all gx = true) ∧ Hid (Bx1 w (.cells #[.slice m0a m0.length m0c, .slice m1a m1.length m1c, .int .i64 9, .string nm, .int .i64 pop, .int .i64 pn, .string pnm, .string pfd, .slice pla pl.length plc, .slice exa ex.length exc, .bool dn, .bool mo, .slice bda bd.length bdc, .slice ela el.length elc, .slice ena en.length enc, .slice e2a e2.length e2c] 84) wr)) (fun i _ => ex.length - (intOf i).toNat)
  case atStart => exact ⟨0, Nat.zero_le _, rfl, Lib.hid rfl, Lib.hid S3.out⟩
  case round =>
    obtain ⟨k, hk, rfl, HT, SW⟩ := hrel
    clear cA
    have cA := box_cells SW.out.a
    by_cases hlt : k < ex.length
    · obtain ⟨b, o, vs, ds, rfl, hbl, hx, hv, hc⟩ := HA.out.elem hlt
      have qx := Lib.hid (K_x.out ds (List.mem_of_getElem? hx) vs hv)
      obtain ⟨xop, xn, xnm, xfd, kl, kla, klc, hds, hvs, _⟩ := hv.openE (HS.out _ (List.mem_of_getElem? hx))
      subst hvs
      have hdl : ds.length = 5 := by rw [hds]; rfl
      rw [hdl] at hc
      have B0 := SW.out.on HW.out
      have hbw : b < wr.heap.size := Nat.lt_of_lt_of_le hbl B0.size
      have c0 := (B0.cell (p := ⟨b, o + k * 5, none⟩) hbl).trans (hc 0 _ rfl)
      have c1 := (B0.cell (p := ⟨b, o + k * 5 + 1, none⟩) hbl).trans (hc 1 _ rfl)
      have c2 := (B0.cell (p := ⟨b, o + k * 5 + 2, none⟩) hbl).trans (hc 2 _ rfl)
      have c3 := (B0.cell (p := ⟨b, o + k * 5 + 3, none⟩) hbl).trans (hc 3 _ rfl)
      have c4 := (B0.cell (p := ⟨b, o + k * 5 + 4, none⟩) hbl).trans (hc 4 _ rfl)
      have C0 := Lib.hid (hc 0 _ rfl)
      have HX := Lib.hid hx
      have HOP := Lib.hid (show opD ds = xop by rw [hds]; rfl)
      clear hx hds hdl hc B0 hv
      go_wp2_with fail
      refine (qx.out _ (SW.out.on HW.out)).mono ?_
      rintro e v1 ⟨rfl, bv⟩
      have SV := Lib.hid (SW.out.step bv)
      clear bv cA c0 c1 c2 c3 c4
      have cA := box_cells SV.out.a
      have B1 := SV.out.on HW.out
      have hbw1 : b < v1.heap.size := Nat.lt_of_lt_of_le hbl B1.size
      have c0 := (B1.cell (p := ⟨b, o + k * 5, none⟩) hbl).trans C0.out
      clear B1
      cases hg : gx ds with
      | false =>
        have hal : ex.all gx = false := by rw [List.all_eq_false]; exact ⟨ds, List.mem_of_getElem? HX.out, by simp [hg]⟩
        rw [hal] at HR; clear hg hal
        go_wp2_with fail
        go_ret
        exact ⟨by rw [HR.out]; rfl, SV.out.bel⟩
      | true =>
      have HE := Lib.hid (all_take_succ (f := gx) HX.out HT.out hg)
      clear hg
      go_wp2_with fail
      go_roundw
      case rel => exact ⟨k + 1, by omega, by go_num, HE, SV⟩
      case measure => simp [intOf]; omega
    · obtain rfl : k = ex.length := by omega
      have hal := HT.out
      rw [List.take_length] at hal
      rw [hal] at HR; clear hal
      have S4 := SW
      go_wp2_with fail
      refine (K_p.out _ (S4.out.on HW.out)).mono ?_
      rintro e w5 ⟨rfl, b5⟩
      have S5 := Lib.hid (S4.out.step b5)
      clear b5 cA
      have cA := box_cells S5.out.a
      cases P with
      | false =>
        go_wp2_with fail
        go_ret
        exact ⟨by rw [HR.out]; rfl, S5.out.bel⟩
      | true =>
      cases hnm : nm.toList.isEmpty with
      | false =>
        rw [hnm] at HR
        have hnm2 : (nm.toList == []) = false := by rw [← hnm]; cases nm.toList <;> rfl
        go_wp2_with fail
        go_ret
        exact ⟨by rw [HR.out]; rfl, S5.out.bel⟩
      | true =>
      rw [hnm] at HR
      have hnm2 : (nm.toList == []) = true := by rw [← hnm]; cases nm.toList <;> rfl
      cases dn with
      | true =>
        go_wp2_with fail
        go_ret
        exact ⟨by rw [HR.out]; rfl, S5.out.bel⟩
      | false =>
      cases mo with
      | true =>
        go_wp2_with fail
        go_ret
        exact ⟨by rw [HR.out]; rfl, S5.out.bel⟩
      | false =>
      by_cases gl : 0 < el.length
      · have hl : decide (0 < el.length) = true := decide_eq_true gl
        have xl : (el.length == 0) = false := by rw [beq_eq_false_iff_ne]; omega
        rw [xl] at HR; clear xl
        go_wp2_with fail
        go_ret
        exact ⟨by rw [HR.out]; rfl, S5.out.bel⟩
      have hl : decide (0 < el.length) = false := decide_eq_false gl
      have xl : (el.length == 0) = true := by rw [beq_iff_eq]; omega
      rw [xl] at HR; clear xl
      by_cases gm : 0 < e2.length
      · have hm : decide (0 < e2.length) = true := decide_eq_true gm
        have xm : (e2.length == 0) = false := by rw [beq_eq_false_iff_ne]; omega
        rw [xm] at HR; clear xm
        go_wp2_with fail
        go_ret
        exact ⟨by rw [HR.out]; rfl, S5.out.bel⟩
      have hm : decide (0 < e2.length) = false := decide_eq_false gm
      have xm : (e2.length == 0) = true := by rw [beq_iff_eq]; omega
      rw [xm] at HR; clear xm
      by_cases gb : 0 < bd.length
      · have hb : decide (0 < bd.length) = true := decide_eq_true gb
        have xb : (bd.length == 0) = false := by rw [beq_eq_false_iff_ne]; omega
        rw [xb] at HR; clear xb
        go_wp2_with fail
        go_ret
        exact ⟨by rw [HR.out]; rfl, S5.out.bel⟩
      have hb : decide (0 < bd.length) = false := decide_eq_false gb
      have xb : (bd.length == 0) = true := by rw [beq_iff_eq]; omega
      rw [xb] at HR; clear xb
      by_cases gn : 0 < en.length
      · have hn : decide (0 < en.length) = true := decide_eq_true gn
        have xn : (en.length == 0) = false := by rw [beq_eq_false_iff_ne]; omega
        rw [xn] at HR; clear xn
        go_wp2_with fail
        go_ret
        exact ⟨by rw [HR.out]; rfl, S5.out.bel⟩
      have hn : decide (0 < en.length) = false := decide_eq_false gn
      have xn : (en.length == 0) = true := by rw [beq_iff_eq]; omega
      rw [xn] at HR; clear xn
      go_wp2_with fail
      refine (K_bd.out _ (S5.out.on HW.out)).mono ?_
      rintro e w6 ⟨rfl, b6⟩
      have S6 := Lib.hid (S5.out.step b6)
      clear b6 cA
      have cA := box_cells S6.out.a
      cases BD with
      | false =>
        go_wp2_with fail
        go_ret
        exact ⟨by rw [HR.out]; rfl, S6.out.bel⟩
      | true =>
      go_wp2_with fail
      refine (K_el.out _ (S6.out.on HW.out)).mono ?_
      rintro e w7 ⟨rfl, b7⟩
      have S7 := Lib.hid (S6.out.step b7)
      clear b7 cA
      have cA := box_cells S7.out.a
      cases EL with
      | false =>
        go_wp2_with fail
        go_ret
        exact ⟨by rw [HR.out]; rfl, S7.out.bel⟩
      | true =>
      go_wp2_with fail
      go_ret
      exact ⟨by rw [HR.out]; rfl, S7.out.bel⟩
end Go.Proofs.YtciijpahjjoppaaGreat
end
section
namespace Go.Proofs.YtciijpahjjoppaaGreat
open Go.RowKit Go.Deep Go.Maps

set_option maxRecDepth 100000 in
set_option maxHeartbeats 2000000 in
theorem refNotes_any (w0 : World) (a : Option Addr) (len cap : Nat) (l : List (List D)) (hA : At w0 (.slice a len cap) (.row l)) (hs : ∀ x ∈ l, ShT x) (W : World) (hW : Below w0.heap.size w0 W) :
    Calls Tryz.prog 30 #[.slice a len cap] W fun e W' => e = .returned (.bool (okNs l)) ∧ Below W.heap.size W W' := by
  have HA := Lib.hid hA
  have HS := Lib.hid hs
  have HW := Lib.hid hW
  have hle := hA.len_le
  have HL := Lib.hid hA.len_eq.1
  clear hA hs hW
  go_enter Tryz.func30, Tryz.ntmps30
  go_wp2_with fail
  go_loopw [3] (fun i wr => ∃ k : Nat, k ≤ len ∧ i = .int .i64 k ∧ Hid ((l.take k).all okT = true) ∧ Hid (Below W.heap.size W wr)) (fun i _ => len - (intOf i).toNat)
  case atStart => exact ⟨0, Nat.zero_le _, rfl, Lib.hid rfl, Lib.hid (Below.refl _ _)⟩
  case round =>
    obtain ⟨k, hk, rfl, HT, HB⟩ := hrel
    by_cases hlt : k < len
    · obtain ⟨b, o, vs, ds, rfl, hbl, hx, hv, hc⟩ := HA.out.elem hlt
      obtain ⟨s, hds, hvs, hsz⟩ := hv.openT (HS.out _ (List.mem_of_getElem? hx))
      subst hvs
      have hdl : ds.length = 1 := by rw [hds]; rfl
      rw [hdl] at hc
      have B0 := HW.out.trans (HB.out.mono HW.out.size)
      have c0 := (B0.cell (p := ⟨b, o + k * 1, none⟩) hbl).trans (hc 0 _ rfl)
      rw [Nat.mul_one] at c0
      have hbw : b < wr.heap.size := Nat.lt_of_lt_of_le hbl B0.size
      have HX := Lib.hid hx
      have HF := Lib.hid (show okT ds = (((N2.checkL s.data.toList : Nat) : Int) == 0) by rw [hds]; show okNote s = _; unfold okNote; rw [Bool.eq_iff_iff]; simp)
      clear hx hds hdl hc B0 hv
      go_wp2_with fail
      refine (N2.check_any s _ hsz).mono ?_
      rintro e w3 ⟨rfl, rfl⟩
      clear c0
      generalize N2.checkL s.data.toList = q at *
      cases hq : ((q : Int) == 0) with
      | true =>
        have hq' : ((q : Int) != 0) = false := by rw [bne, hq]; rfl
        have HE := Lib.hid (all_take_succ HX.out HT.out (HF.out.trans hq))
        clear hq
        go_wp2_with fail
        go_roundw
        case rel => exact ⟨k + 1, by omega, by go_num, HE, HB⟩
        case measure => simp [intOf]; omega
      | false =>
        have hq' : ((q : Int) != 0) = true := by rw [bne, hq]; rfl
        have HE := Lib.hid (okAll_bad HX.out (HF.out.trans hq))
        clear hq
        go_wp2_with fail
        go_ret
        exact ⟨by unfold okNs; rw [HE.out]; rfl, HB.out⟩
    · obtain rfl : k = len := by omega
      have HE := Lib.hid (show okNs l = decide ((k : Int) ≤ 512) by
        unfold okNs okAll
        have h := HT.out
        rw [show l.take k = l by rw [← HL.out, List.take_length]] at h
        rw [h, Bool.and_true, HL.out, Bool.eq_iff_iff, decide_eq_true_eq, decide_eq_true_eq]
        omega)
      cases hq : decide ((k : Int) ≤ 512) with
      | true =>
        rw [hq] at HE
        go_wp2_with fail
        go_ret
        exact ⟨by rw [HE.out]; rfl, HB.out⟩
      | false =>
        rw [hq] at HE
        go_wp2_with fail
        go_ret
        exact ⟨by rw [HE.out]; rfl, HB.out⟩
set_option maxRecDepth 100000 in
set_option maxHeartbeats 2000000 in
theorem refMarks_any (w0 : World) (m0 m1 : List (List D)) (m0a : Option Addr) (m0c : Nat) (m1a : Option Addr) (m1c : Nat) (h0 : At w0 (.slice m0a m0.length m0c) (.row m0)) (h1 : At w0 (.slice m1a m1.length m1c) (.row m1)) (s0 : ∀ x ∈ m0, ShT x) (s1 : ∀ x ∈ m1, ShT x) (W : World) (hW : Below w0.heap.size w0 W) :
    Calls Tryz.prog 31 #[.agg #[.slice m0a m0.length m0c, .slice m1a m1.length m1c]] W fun e W' => e = .returned (.bool (okNs m0 && okNs m1)) ∧ Below W.heap.size W W' := by
  have S0 := Lib.hid (Bx1.start W (.cells #[.slice m0a m0.length m0c, .slice m1a m1.length m1c] 59))
  have HW := Lib.hid hW
  have H0 := Lib.hid (fun (W : World) (hW : Below w0.heap.size w0 W) => refNotes_any w0 m0a m0.length m0c m0 h0 s0 W hW)
  have H1 := Lib.hid (fun (W : World) (hW : Below w0.heap.size w0 W) => refNotes_any w0 m1a m1.length m1c m1 h1 s1 W hW)
  clear hW h0 h1 s0 s1
  generalize hr0 : okNs m0 = r0 at *
  generalize hr1 : okNs m1 = r1 at *
  clear hr0 hr1
  go_enter Tryz.func31, Tryz.ntmps31
  go_wp2_with fail
  refine (H0.out _ (S0.out.on HW.out)).mono ?_
  rintro e w1 ⟨rfl, b1⟩
  have S1 := Lib.hid (S0.out.step b1)
  have cA := box_cells S1.out.a
  clear b1
  cases r0 with
  | false =>
    go_wp2_with fail
    go_ret
    exact ⟨rfl, S1.out.bel⟩
  | true =>
    go_wp2_with fail
    refine (H1.out _ (S1.out.on HW.out)).mono ?_
    rintro e w2 ⟨rfl, b2⟩
    have S2 := Lib.hid (S1.out.step b2)
    clear b2 cA
    go_wp2_with fail
    go_ret
    exact ⟨rfl, S2.out.bel⟩
set_option maxRecDepth 100000 in
set_option maxHeartbeats 2000000 in
theorem refType_any (d kd sz : Int) (tn : ByteArray) (ht : tn.size ≤ maxLen) (w : World) :
    Calls Tryz.prog 79 #[.int .i64 d, .agg #[.int .i64 kd, .int .i64 sz, .string tn]] w fun e w' => e = .returned (.bool (okType d kd sz tn)) ∧ Below w.heap.size w w' := by
  have S0 := Lib.hid (Bx1.start w (.cells #[.int .i64 kd, .int .i64 sz, .string tn] 73))
  cases h4 : kd == 4 with
  | true =>
    have HO := Lib.hid (show okType d kd sz tn = ((sz == 0) && okName d tn) by unfold okType; rw [h4]; rfl)
    cases h1 : sz == 0 with
    | false =>
      go_enter Tryz.func79, Tryz.ntmps79
      go_wp2_with fail
      go_ret
      exact ⟨by rw [HO.out, h1]; rfl, S0.out.bel⟩
    | true =>
      have H1 := Lib.hid h1
      go_enter Tryz.func79, Tryz.ntmps79
      go_wp2_with fail
      refine (refName_any d tn _ ht).mono ?_
      rintro e w1 ⟨rfl, b1⟩
      have S1 := Lib.hid (S0.out.step b1)
      clear b1
      generalize hr : okName d tn = r at *
      go_wp2_with fail
      go_ret
      exact ⟨by rw [HO.out, H1.out]; rfl, S1.out.bel⟩
  | false =>
    have HO := Lib.hid (show okType d kd sz tn = ((decide (1 ≤ kd) && decide (kd ≤ 3)) && ((decide (0 ≤ sz) && decide (sz ≤ 64)) && tn.toList.isEmpty)) by unfold okType; rw [h4]; rfl)
    cases h1 : decide (1 ≤ kd) <;> cases h2 : decide (kd ≤ 3) <;> cases h3 : decide (0 ≤ sz) <;> cases h5 : decide (sz ≤ 64) <;>
    · rw [h1, h2, h3, h5] at HO
      go_enter Tryz.func79, Tryz.ntmps79
      go_wp2_with fail
      go_ret
      exact ⟨by rw [HO.out]; rfl, S0.out.bel⟩
theorem none_same (op n : Int) (nm fd : ByteArray) (kl : List (List D)) : same [.int op, .int n, .str nm, .str fd, .row kl] zeroE = ((op == 0) && ((n == 0) && (nm.toList.isEmpty && (fd.toList.isEmpty && decide (kl.length = 0))))) := by
  have e : ∀ s : ByteArray, (s.toList.isEmpty = true ↔ s = ⟨#[]⟩) := fun s => by
    constructor
    · intro h
      have h2 : s.toList = [] := by simpa using h
      rw [ByteArray.toList_eq] at h2
      exact ByteArray.ext (by simpa using h2)
    · rintro rfl; rw [ByteArray.toList_eq]; rfl
  rw [Bool.eq_iff_iff, same_iff]
  unfold zeroE
  simp [e]
end Go.Proofs.YtciijpahjjoppaaGreat
end
section
namespace Go.Proofs.YtciijpahjjoppaaGreat
open Go.RowKit Go.Deep Go.Maps

set_option maxRecDepth 100000 in
set_option maxHeartbeats 2000000 in
theorem refNone_any (op n : Int) (nm fd : ByteArray) (kl : List (List D)) (kla : Option Addr) (klc : Nat) (w : World) :
    Calls Tryz.prog 120 #[.agg #[.int .i64 op, .int .i64 n, .string nm, .string fd, .slice kla kl.length klc]] w fun e w' => e = .returned (.bool (same [.int op, .int n, .str nm, .str fd, .row kl] zeroE)) ∧ Below w.heap.size w w' := by
  have S0 := Lib.hid (Bx1.start w (.cells #[.int .i64 op, .int .i64 n, .string nm, .string fd, .slice kla kl.length klc] 24))
  have HO := Lib.hid (none_same op n nm fd kl)
  cases h1 : op == 0 with
  | false =>
    rw [h1] at HO
    go_enter Tryz.func120, Tryz.ntmps120
    go_wp2_with fail
    go_ret
    exact ⟨by rw [HO.out]; rfl, S0.out.bel⟩
  | true =>
  rw [h1] at HO
  cases h2 : n == 0 with
  | false =>
    rw [h2] at HO
    go_enter Tryz.func120, Tryz.ntmps120
    go_wp2_with fail
    go_ret
    exact ⟨by rw [HO.out]; rfl, S0.out.bel⟩
  | true =>
  rw [h2] at HO
  cases h3 : nm.toList.isEmpty with
  | false =>
    rw [h3] at HO
    go_enter Tryz.func120, Tryz.ntmps120
    go_wp2_with fail
    go_ret
    exact ⟨by rw [HO.out]; rfl, S0.out.bel⟩
  | true =>
  rw [h3] at HO
  cases h4 : fd.toList.isEmpty with
  | false =>
    rw [h4] at HO
    go_enter Tryz.func120, Tryz.ntmps120
    go_wp2_with fail
    go_ret
    exact ⟨by rw [HO.out]; rfl, S0.out.bel⟩
  | true =>
  rw [h4] at HO
  by_cases hk : kl.length = 0
  · rw [decide_eq_true hk] at HO
    have g1 : ((kl.length : Int) == 0) = true := by rw [beq_iff_eq]; omega
    have g2 : (kl.length == 0) = true := by rw [beq_iff_eq]; omega
    clear hk
    go_enter Tryz.func120, Tryz.ntmps120
    go_wp2_with fail
    go_ret
    exact ⟨by rw [HO.out]; rfl, S0.out.bel⟩
  · rw [decide_eq_false hk] at HO
    have g1 : ((kl.length : Int) == 0) = false := by rw [beq_eq_false_iff_ne]; omega
    have g2 : (kl.length == 0) = false := by rw [beq_eq_false_iff_ne]; omega
    clear hk
    go_enter Tryz.func120, Tryz.ntmps120
    go_wp2_with fail
    go_ret
    exact ⟨by rw [HO.out]; rfl, S0.out.bel⟩
set_option maxRecDepth 100000 in
set_option maxHeartbeats 2000000 in
theorem refPlace_any (w0 : World) (d : Int) (hd : d = 0 ∨ d = 1) (op n : Int) (nm fd : ByteArray) (kl : List (List D)) (kla : Option Addr) (klc : Nat) (hx : ShE [.int op, .int n, .str nm, .str fd, .row kl]) (hb : mRow [.int op, .int n, .str nm, .str fd, .row kl] ≤ 2000000) (hv : AllAt w0 [.int .i64 op, .int .i64 n, .string nm, .string fd, .slice kla kl.length klc] [.int op, .int n, .str nm, .str fd, .row kl]) (w : World) (hW : Below w0.heap.size w0 w) :
    Calls Tryz.prog 119 #[.int .i64 d, .agg #[.int .i64 op, .int .i64 n, .string nm, .string fd, .slice kla kl.length klc]] w fun e w' => e = .returned (.bool (wthn op 4 6 && okE d 48 [.int op, .int n, .str nm, .str fd, .row kl])) ∧ Below w.heap.size w w' := by
  have S0 := Lib.hid (Bx1.start w (.cells #[.int .i64 op, .int .i64 n, .string nm, .string fd, .slice kla kl.length klc] 24))
  have HE := Lib.hid (fun (W : World) (hW : Below w0.heap.size w0 W) => refExpr_any w0 d _ _ hx hb hv W hW)
  have HK := Lib.hid (show chkE d [.int op, .int n, .str nm, .str fd, .row kl] = okE d 48 [.int op, .int n, .str nm, .str fd, .row kl] by unfold chkE knows; rcases hd with rfl | rfl <;> rfl)
  have HW := Lib.hid hW
  clear hx hb hv hW hd
  have HO := Lib.hid (show wthn op 4 6 = (decide (4 ≤ op) && decide (op ≤ 6)) from rfl)
  cases h1 : decide (4 ≤ op) with
  | false =>
    rw [h1] at HO
    go_enter Tryz.func119, Tryz.ntmps119
    go_wp2_with fail
    go_ret
    exact ⟨by rw [HO.out]; rfl, S0.out.bel⟩
  | true =>
  rw [h1] at HO
  cases h2 : decide (op ≤ 6) with
  | false =>
    rw [h2] at HO
    go_enter Tryz.func119, Tryz.ntmps119
    go_wp2_with fail
    go_ret
    exact ⟨by rw [HO.out]; rfl, S0.out.bel⟩
  | true =>
    rw [h2] at HO
    go_enter Tryz.func119, Tryz.ntmps119
    go_wp2_with fail
    refine (HE.out _ (S0.out.on HW.out)).mono ?_
    rintro e w1 ⟨rfl, b1⟩
    have S1 := Lib.hid (S0.out.step b1)
    clear b1
    rw [HK.out]
    generalize hr : okE d 48 [.int op, .int n, .str nm, .str fd, .row kl] = r at *
    go_wp2_with fail
    go_ret
    exact ⟨by rw [HO.out, hr]; rfl, S1.out.bel⟩
end Go.Proofs.YtciijpahjjoppaaGreat
end
section
namespace Go.Proofs.YtciijpahjjoppaaGreat
open Go.RowKit Go.Deep Go.Maps Go.Sort

set_option maxRecDepth 100000 in
set_option maxHeartbeats 4000000 in
theorem rst_deep (d : Int) (dp : Nat) (hdp : 48 < dp) (m0 m1 : List (List D)) (op : Int) (nm : ByteArray) (pop pn : Int) (pnm pfd : ByteArray) (pl ex : List (List D)) (dn mo : Bool) (bd el en e2 : List (List D)) (m0a : Option Addr) (m0c : Nat) (m1a : Option Addr) (m1c : Nat) (pla : Option Addr) (plc : Nat) (exa : Option Addr) (exc : Nat) (bda : Option Addr) (bdc : Nat) (ela : Option Addr) (elc : Nat) (ena : Option Addr) (enc : Nat) (e2a : Option Addr) (e2c : Nat) (w : World) :
    Calls Tryz.prog 81 #[.int .i64 d, .agg #[.slice m0a m0.length m0c, .slice m1a m1.length m1c, .int .i64 op, .string nm, .int .i64 pop, .int .i64 pn, .string pnm, .string pfd, .slice pla pl.length plc, .slice exa ex.length exc, .bool dn, .bool mo, .slice bda bd.length bdc, .slice ela el.length elc, .slice ena en.length enc, .slice e2a e2.length e2c], .int .i64 dp] w fun e w' => e = .returned (.bool false) ∧ Below w.heap.size w w' := by
  have S0 := Lib.hid (Bx1.start w (.cells #[.slice m0a m0.length m0c, .slice m1a m1.length m1c, .int .i64 op, .string nm, .int .i64 pop, .int .i64 pn, .string pnm, .string pfd, .slice pla pl.length plc, .slice exa ex.length exc, .bool dn, .bool mo, .slice bda bd.length bdc, .slice ela el.length elc, .slice ena en.length enc, .slice e2a e2.length e2c] 84))
  have hdp2 : decide ((48 : Int) < (dp : Int)) = true := by simp; omega
  clear hdp
  go_enter Tryz.func81, Tryz.ntmps81
  go_wp2_with fail
  go_ret
  exact ⟨rfl, S0.out.bel⟩
set_option maxRecDepth 100000 in
set_option maxHeartbeats 4000000 in
theorem rst_no (w0 : World) (d : Int) (dp : Nat) (hdp : dp ≤ 48) (m0 m1 : List (List D)) (op : Int) (nm : ByteArray) (pop pn : Int) (pnm pfd : ByteArray) (pl ex : List (List D)) (dn mo : Bool) (bd el en e2 : List (List D)) (m0a : Option Addr) (m0c : Nat) (m1a : Option Addr) (m1c : Nat) (pla : Option Addr) (plc : Nat) (exa : Option Addr) (exc : Nat) (bda : Option Addr) (bdc : Nat) (ela : Option Addr) (elc : Nat) (ena : Option Addr) (enc : Nat) (e2a : Option Addr) (e2c : Nat) (M EN E2 : Bool) (hop : sok op = false)
    (q_m : Says w0 31 #[.agg #[.slice m0a m0.length m0c, .slice m1a m1.length m1c]] (.bool M)) (q_en : Says w0 30 #[.slice ena en.length enc] (.bool EN)) (q_e2 : Says w0 30 #[.slice e2a e2.length e2c] (.bool E2)) (w : World) (hW : Below w0.heap.size w0 w) :
    Calls Tryz.prog 81 #[.int .i64 d, .agg #[.slice m0a m0.length m0c, .slice m1a m1.length m1c, .int .i64 op, .string nm, .int .i64 pop, .int .i64 pn, .string pnm, .string pfd, .slice pla pl.length plc, .slice exa ex.length exc, .bool dn, .bool mo, .slice bda bd.length bdc, .slice ela el.length elc, .slice ena en.length enc, .slice e2a e2.length e2c], .int .i64 dp] w fun e w' => e = .returned (.bool false) ∧ Below w.heap.size w w' := by
  have K_m := Lib.hid q_m
  have K_en := Lib.hid q_en
  have K_e2 := Lib.hid q_e2
  have HW := Lib.hid hW
  have HR := Lib.hid (show false = false from rfl)
  have S0 := Lib.hid (Bx1.start w (.cells #[.slice m0a m0.length m0c, .slice m1a m1.length m1c, .int .i64 op, .string nm, .int .i64 pop, .int .i64 pn, .string pnm, .string pfd, .slice pla pl.length plc, .slice exa ex.length exc, .bool dn, .bool mo, .slice bda bd.length bdc, .slice ela el.length elc, .slice ena en.length enc, .slice e2a e2.length e2c] 84))
  have hdp2 : decide ((48 : Int) < (dp : Int)) = false := by simp; omega
  have HOP := Lib.hid (show ¬ (1 ≤ op ∧ op ≤ 9) by unfold sok at hop; simpa using hop)
  clear q_m q_en q_e2 hW hop
  go_enter Tryz.func81, Tryz.ntmps81
  go_wp2_with fail
  refine (K_m.out _ (S0.out.on HW.out)).mono ?_
  rintro e w1 ⟨rfl, b1⟩
  have S1 := Lib.hid (S0.out.step b1)
  clear b1
  have cA := box_cells S1.out.a
  cases M with
  | false =>
    go_wp2_with fail
    go_ret
    exact ⟨rfl, S1.out.bel⟩
  | true =>
  go_wp2_with fail
  refine (K_en.out _ (S1.out.on HW.out)).mono ?_
  rintro e w2 ⟨rfl, b2⟩
  have S2 := Lib.hid (S1.out.step b2)
  clear b2 cA
  have cA := box_cells S2.out.a
  cases EN with
  | false =>
    go_wp2_with fail
    go_ret
    exact ⟨rfl, S2.out.bel⟩
  | true =>
  go_wp2_with fail
  refine (K_e2.out _ (S2.out.on HW.out)).mono ?_
  rintro e w3 ⟨rfl, b3⟩
  have S3 := Lib.hid (S2.out.step b3)
  clear b3 cA
  have cA := box_cells S3.out.a
  cases E2 with
  | false =>
    go_wp2_with fail
    go_ret
    exact ⟨rfl, S3.out.bel⟩
  | true =>
  by_cases hlo : op < 1
  · have h1 : decide (op < 1) = true := decide_eq_true hlo
    clear hlo
    go_wp2_with fail
    go_ret
    exact ⟨rfl, S3.out.bel⟩
  · have h1 : decide (op < 1) = false := decide_eq_false hlo
    have h2 : decide (9 < op) = true := decide_eq_true (by have := HOP.out; omega)
    clear hlo
    go_wp2_with fail
    go_ret
    exact ⟨rfl, S3.out.bel⟩
set_option maxRecDepth 100000 in
set_option maxHeartbeats 4000000 in
theorem refStmts_any (w0 : World) (d : Int) (dp : Nat) (f : List D → Bool) (a : Option Addr) (len cap : Nat) (l : List (List D)) (hA : At w0 (.slice a len cap) (.row l)) (hs : ∀ x ∈ l, ShS x)
    (hf : ∀ x ∈ l, ∀ vs, AllAt w0 vs x → ∀ W, Below w0.heap.size w0 W → Calls Tryz.prog 81 #[.int .i64 d, .agg ⟨vs⟩, .int .i64 dp] W fun e W' => e = .returned (.bool (f x)) ∧ Below W.heap.size W W') (W : World) (hW : Below w0.heap.size w0 W) :
    Calls Tryz.prog 34 #[.int .i64 d, .slice a len cap, .int .i64 dp] W fun e W' => e = .returned (.bool (okAll l f)) ∧ Below W.heap.size W W' := by
  have HA := Lib.hid hA
  have HS := Lib.hid hs
  have HF := Lib.hid hf
  have HW := Lib.hid hW
  have hle := hA.len_le
  have HL := Lib.hid hA.len_eq.1
  clear hA hs hW hf
  go_enter Tryz.func34, Tryz.ntmps34
  go_wp2_with fail
  go_loopw [7] (fun i wr => ∃ k : Nat, k ≤ len ∧ i = .int .i64 k ∧ Hid ((l.take k).all f = true) ∧ Hid (Below W.heap.size W wr)) (fun i _ => len - (intOf i).toNat)
  case atStart => exact ⟨0, Nat.zero_le _, rfl, Lib.hid rfl, Lib.hid (Below.refl _ _)⟩
  case round =>
    obtain ⟨k, hk, rfl, HT, HB⟩ := hrel
    by_cases hlt : k < len
    · obtain ⟨b, o, vs, ds, rfl, hbl, hx, hv, hc⟩ := HA.out.elem hlt
      have FN := Lib.hid (HF.out ds (List.mem_of_getElem? hx) vs hv)
      have hdl : ds.length = 16 := (HS.out _ (List.mem_of_getElem? hx)).ln
      rw [hdl] at hc
      have hvl := Lib.hid (hv.len.trans hdl)
      have B0 := Lib.hid (HW.out.trans (HB.out.mono HW.out.size))
      have hbw : b < wr.heap.size := Nat.lt_of_lt_of_le hbl B0.out.size
      have C0 := Lib.hid (show ∀ j v, vs[j]? = some v → wr.cell? ⟨b, o + k * 16 + j, none⟩ = some v from fun j v hv => (B0.out.cell (p := ⟨b, o + k * 16 + j, none⟩) hbl).trans (hc j v hv))
      have HX := Lib.hid hx
      clear hx hdl hc hv
      go_wp2_with (first
        | ((with_reducible refine wp_loadAgg (o := ⟨some 18, _, _, _, _, _⟩) rfl (.tmp 17) 84 rfl 16 Tryz.isAgg84 Tryz.sizeOf84 b (o + k * 16) ?_ vs hvl.out C0.out ?_); rfl))
      refine (FN.out _ B0.out).mono ?_
      rintro e w3 ⟨rfl, b3⟩
      have HB4 := Lib.hid (HB.out.trans (b3.mono HB.out.size))
      clear b3
      cases hsm : f ds with
      | true =>
        have HE := Lib.hid (all_take_succ HX.out HT.out hsm)
        clear hsm
        go_wp2_with fail
        go_roundw
        case rel => exact ⟨k + 1, by omega, by go_num, HE, HB4⟩
        case measure => simp [intOf]; omega
      | false =>
        have HE := Lib.hid (okAll_bad HX.out hsm)
        clear hsm
        go_wp2_with fail
        go_ret
        exact ⟨by rw [HE.out]; rfl, HB4.out⟩
    · obtain rfl : k = len := by omega
      have HE := Lib.hid (show okAll l f = decide ((k : Int) ≤ 512) by
        unfold okAll
        have h := HT.out
        rw [show l.take k = l by rw [← HL.out, List.take_length]] at h
        rw [h, Bool.and_true, HL.out, Bool.eq_iff_iff, decide_eq_true_eq, decide_eq_true_eq]
        omega)
      cases hq : decide ((k : Int) ≤ 512) with
      | true =>
        rw [hq] at HE
        go_wp2_with fail
        go_ret
        exact ⟨by rw [HE.out]; rfl, HB.out⟩
      | false =>
        rw [hq] at HE
        go_wp2_with fail
        go_ret
        exact ⟨by rw [HE.out]; rfl, HB.out⟩
end Go.Proofs.YtciijpahjjoppaaGreat
end
section
namespace Go.Proofs.YtciijpahjjoppaaGreat
open Go.RowKit Go.Deep Go.Maps Go.Sort

theorem okAll_nil {l : List (List D)} {f : List D → Bool} (h : (l.length == 0) = true) : okAll l f = true := by
  have : l = [] := List.eq_nil_of_length_eq_zero (by simpa using h)
  subst this
  rfl
theorem dec_zero (l : List (List D)) : decide (l.length = 0) = (l.length == 0) := by
  rw [Bool.eq_iff_iff, decide_eq_true_eq, beq_iff_eq]
theorem ref_eq (fb fo M NMW DN P LN XA XC mo bd0 en0 el0 e20 EN E2 BD EL X : Bool) (h1 : bd0 = true → BD = true) (h2 : en0 = true → EN = true) (h3 : el0 = true → EL = true) (h4 : e20 = true → E2 = true) (hX : LN = true → X = (XA && XC)) :
    (M && (NMW && (DN && (P && (LN && (XA && (XC && ((if fb then BD && EN else bd0 && en0) && ((fo || !mo) && (if mo then EL && E2 else el0 && e20)))))))))) = (M && (EN && (E2 && (LN && (X && (P && ((NMW && DN) && (((fo || !mo) && (mo || (el0 && e20))) && ((fb || (bd0 && en0)) && (BD && EL)))))))))) := by
  cases LN with
  | false => cases M <;> cases NMW <;> cases DN <;> cases P <;> cases EN <;> cases E2 <;> rfl
  | true =>
    rw [hX rfl]
    rw [Bool.eq_iff_iff]
    simp only [Bool.and_eq_true, Bool.or_eq_true, Bool.true_and]
    cases fb <;> cases mo <;> simp only [Bool.false_eq_true, if_true, if_false, Bool.and_eq_true, Bool.not_true, Bool.not_false, or_false, or_true, true_and, false_or, true_or, and_true]
    all_goals
      constructor
      · intro h
        simp_all
      · intro h
        simp_all
theorem all_call (ex : List (List D)) (g : List D → Bool) (h : wthn ex.length 1 1 = true) : ex.all (fun x => g x && (opD x == 7)) = (okAll ex g && (!true || callFirst ex)) := by
  unfold wthn at h
  simp only [Bool.and_eq_true, decide_eq_true_eq] at h
  match ex, h with
  | [x], _ => simp [okAll, callFirst]
  | [], h => simp at h
  | _ :: _ :: _, h => simp at h; omega
theorem all_plain (ex : List (List D)) (g : List D → Bool) (a b : Int) (hb : b ≤ 2) (h : wthn ex.length a b = true) : ex.all g = (okAll ex g && (!false || callFirst ex)) := by
  unfold wthn at h
  simp only [Bool.and_eq_true, decide_eq_true_eq] at h
  unfold okAll
  rw [decide_eq_true (by omega)]
  simp
set_option maxRecDepth 100000 in
set_option maxHeartbeats 4000000 in
theorem refStmt_any (w0 : World) (d : Int) (hd : d = 0 ∨ d = 1) : ∀ (k dp : Nat), dp + k = 49 → ∀ (x : List D) (vs : List Value), ShS x → mRow x ≤ 2000000 → AllAt w0 vs x → ∀ W, Below w0.heap.size w0 W →
    Calls Tryz.prog 81 #[.int .i64 d, .agg ⟨vs⟩, .int .i64 dp] W fun e W' => e = .returned (.bool (okS d k x)) ∧ Below W.heap.size W W'
  | 0, dp, hk, x, vs, hx, _, hv, W, _ => by
    obtain ⟨m0, m1, op, nm, pop, pn, pnm, pfd, pl, ex, dn, mo, bd, el, en, e2, m0a, m0c, m1a, m1c, pla, plc, exa, exc, bda, bdc, ela, elc, ena, enc, e2a, e2c, rfl, rfl, _⟩ := hv.openS hx
    exact rst_deep d dp (by omega) m0 m1 op nm pop pn pnm pfd pl ex dn mo bd el en e2 m0a m0c m1a m1c pla plc exa exc bda bdc ela elc ena enc e2a e2c W
  | k + 1, dp, hk, x, vs, hx, hb, hv, W, hW => by
    obtain ⟨m0, m1, op, nm, pop, pn, pnm, pfd, pl, ex, dn, mo, bd, el, en, e2, m0a, m0c, m1a, m1c, pla, plc, exa, exc, bda, bdc, ela, elc, ena, enc, e2a, e2c, rfl, rfl, a_m0, a_m1, _, i_nm, ⟨p1, p2⟩, ⟨p3, p4⟩, p5, p6, a_pl, a_ex, a_bd, a_el, a_en, a_e2, t_m0, t_m1, t_pl, t_ex, t_bd, t_el, t_en, t_e2⟩ := hv.openS hx
    simp only [mRow, mD] at hb
    have x_p : ShE [.int pop, .int pn, .str pnm, .str pfd, .row pl] := .mk pop pn pnm pfd pl t_pl
    have v_p : AllAt w0 [.int .i64 pop, .int .i64 pn, .string pnm, .string pfd, .slice pla pl.length plc] [.int pop, .int pn, .str pnm, .str pfd, .row pl] := ⟨.int pop p1 p2, .int pn p3 p4, .str pnm p5, .str pfd p6, a_pl, trivial⟩
    have b_p : mRow [.int pop, .int pn, .str pnm, .str pfd, .row pl] ≤ 2000000 := by simp only [mRow, mD]; omega
    have q_m : Says w0 31 _ _ := fun W hW => refMarks_any w0 m0 m1 m0a m0c m1a m1c a_m0 a_m1 t_m0 t_m1 W hW
    have q_en : Says w0 30 _ _ := fun W hW => refNotes_any w0 ena en.length enc en a_en t_en W hW
    have q_e2 : Says w0 30 _ _ := fun W hW => refNotes_any w0 e2a e2.length e2c e2 a_e2 t_e2 W hW
    have q_pl : Says w0 119 _ _ := fun W hW => refPlace_any w0 d hd pop pn pnm pfd pl pla plc x_p b_p v_p W hW
    have q_no : Says w0 120 _ _ := fun W _ => refNone_any pop pn pnm pfd pl pla plc W
    have q_nm : Says w0 29 _ _ := fun W _ => refName_any d nm W i_nm
    have q_bd : Says w0 34 _ _ := fun W hW => refStmts_any w0 d (dp + 1) (okS d k) bda bd.length bdc bd a_bd t_bd (fun y hy us hu U hU => refStmt_any w0 d hd k (dp + 1) (by omega) y us (t_bd y hy) (by have := mRows_mem hy; omega) hu U hU) W hW
    have q_el : Says w0 34 _ _ := fun W hW => refStmts_any w0 d (dp + 1) (okS d k) ela el.length elc el a_el t_el (fun y hy us hu U hU => refStmt_any w0 d hd k (dp + 1) (by omega) y us (t_el y hy) (by have := mRows_mem hy; omega) hu U hU) W hW
    have hkn : knows d = true := by rcases hd with rfl | rfl <;> rfl
    have q_x : ∀ x ∈ ex, ∀ vs, AllAt w0 vs x → Says w0 10 #[.int .i64 d, .agg ⟨vs⟩] (.bool (okE d 48 x)) := fun y hy us hu W hW => by
      have h := refExpr_any w0 d y us (t_ex y hy) (by have := mRows_mem hy; omega) hu W hW
      rwa [show chkE d y = okE d 48 y by unfold chkE; rw [hkn]; rfl] at h
    have n1 := fun (h : (bd.length == 0) = true) => okAll_nil (f := okS d k) h
    have n2 := fun (h : (en.length == 0) = true) => okAll_nil (f := okT) h
    have n3 := fun (h : (el.length == 0) = true) => okAll_nil (f := okS d k) h
    have n4 := fun (h : (e2.length == 0) = true) => okAll_nil (f := okT) h
    show Calls Tryz.prog 81 _ W fun e W' => e = .returned (.bool (okSx d (okS d k) _)) ∧ _
    cases hsk : sok op with
    | false =>
      rw [okSx_eq, hsk, Bool.false_and]
      exact rst_no w0 d dp (by omega) m0 m1 op nm pop pn pnm pfd pl ex dn mo bd el en e2 m0a m0c m1a m1c pla plc exa exc bda bdc ela elc ena enc e2a e2c _ _ _ hsk q_m q_en q_e2 W hW
    | true =>
    have hop : op = 1 ∨ op = 2 ∨ op = 3 ∨ op = 4 ∨ op = 5 ∨ op = 6 ∨ op = 7 ∨ op = 8 ∨ op = 9 := by
      unfold sok at hsk
      simp only [Bool.and_eq_true, decide_eq_true_eq] at hsk
      omega
    rcases hop with rfl | rfl | rfl | rfl | rfl | rfl | rfl | rfl | rfl
    · refine rst_1 w0 d dp (by omega) m0 m1 nm pop pn pnm pfd pl ex dn mo bd el en e2 m0a m0c m1a m1c pla plc exa exc bda bdc ela elc ena enc e2a e2c _ _ _ _ (okName d nm) _ _ _ (okE d 48) q_m q_en q_e2 q_pl q_nm q_bd q_el q_x a_ex t_ex ?_ W hW
      rw [okSx_eq]
      simp only [show sok (1 : Int) = true from by decide, show splace (1 : Int) = true from by decide, show sleast (1 : Int) = 1 from by decide, show smost (1 : Int) = 1 from by decide, show scall (1 : Int) = false from by decide, show sbody (1 : Int) = false from by decide, show sother (1 : Int) = false from by decide, show scount (1 : Int) = false from by decide]
      unfold blockW placeW nameW
      rw [dec_zero, dec_zero, dec_zero, dec_zero]
      refine Eq.trans (ref_eq false false (okNs m0 && okNs m1) (nm.toList.isEmpty) (false || !dn) (wthn pop 4 6 && okE d 48 [.int pop, .int pn, .str pnm, .str pfd, .row pl]) (wthn ex.length 1 1) (okAll ex (okE d 48)) (!false || callFirst ex) mo (bd.length == 0) (en.length == 0) (el.length == 0) (e2.length == 0) (okNs en) (okNs e2) (okAll bd (okS d k)) (okAll el (okS d k)) _ n1 n2 n3 n4 (fun h => all_plain ex _ 1 1 (by omega) h)) ?_
      cases mo <;> rfl
    · refine rst_2 w0 d dp (by omega) m0 m1 nm pop pn pnm pfd pl ex dn mo bd el en e2 m0a m0c m1a m1c pla plc exa exc bda bdc ela elc ena enc e2a e2c _ _ _ _ (okName d nm) _ _ _ (okE d 48) q_m q_en q_e2 q_no q_nm q_bd q_el q_x a_ex t_ex ?_ W hW
      rw [okSx_eq]
      simp only [show sok (2 : Int) = true from by decide, show splace (2 : Int) = false from by decide, show sleast (2 : Int) = 1 from by decide, show smost (2 : Int) = 1 from by decide, show scall (2 : Int) = true from by decide, show sbody (2 : Int) = false from by decide, show sother (2 : Int) = false from by decide, show scount (2 : Int) = false from by decide]
      unfold blockW placeW nameW
      rw [dec_zero, dec_zero, dec_zero, dec_zero]
      refine Eq.trans (ref_eq false false (okNs m0 && okNs m1) (nm.toList.isEmpty) (false || !dn) (same ([.int pop, .int pn, .str pnm, .str pfd, .row pl] : List D) zeroE) (wthn ex.length 1 1) (okAll ex (okE d 48)) (!true || callFirst ex) mo (bd.length == 0) (en.length == 0) (el.length == 0) (e2.length == 0) (okNs en) (okNs e2) (okAll bd (okS d k)) (okAll el (okS d k)) _ n1 n2 n3 n4 (fun h => all_call ex _ h)) ?_
      cases mo <;> rfl
    · refine rst_3 w0 d dp (by omega) m0 m1 nm pop pn pnm pfd pl ex dn mo bd el en e2 m0a m0c m1a m1c pla plc exa exc bda bdc ela elc ena enc e2a e2c _ _ _ _ (okName d nm) _ _ _ (okE d 48) q_m q_en q_e2 q_no q_nm q_bd q_el q_x a_ex t_ex ?_ W hW
      rw [okSx_eq]
      simp only [show sok (3 : Int) = true from by decide, show splace (3 : Int) = false from by decide, show sleast (3 : Int) = 1 from by decide, show smost (3 : Int) = 1 from by decide, show scall (3 : Int) = false from by decide, show sbody (3 : Int) = true from by decide, show sother (3 : Int) = true from by decide, show scount (3 : Int) = false from by decide]
      unfold blockW placeW nameW
      rw [dec_zero, dec_zero, dec_zero, dec_zero]
      refine Eq.trans (ref_eq true true (okNs m0 && okNs m1) (nm.toList.isEmpty) (false || !dn) (same ([.int pop, .int pn, .str pnm, .str pfd, .row pl] : List D) zeroE) (wthn ex.length 1 1) (okAll ex (okE d 48)) (!false || callFirst ex) mo (bd.length == 0) (en.length == 0) (el.length == 0) (e2.length == 0) (okNs en) (okNs e2) (okAll bd (okS d k)) (okAll el (okS d k)) _ n1 n2 n3 n4 (fun h => all_plain ex _ 1 1 (by omega) h)) ?_
      cases mo <;> rfl
    · refine rst_4 w0 d dp (by omega) m0 m1 nm pop pn pnm pfd pl ex dn mo bd el en e2 m0a m0c m1a m1c pla plc exa exc bda bdc ela elc ena enc e2a e2c _ _ _ _ (okName d nm) _ _ _ (okE d 48) q_m q_en q_e2 q_no q_nm q_bd q_el q_x a_ex t_ex ?_ W hW
      rw [okSx_eq]
      simp only [show sok (4 : Int) = true from by decide, show splace (4 : Int) = false from by decide, show sleast (4 : Int) = 1 from by decide, show smost (4 : Int) = 1 from by decide, show scall (4 : Int) = false from by decide, show sbody (4 : Int) = true from by decide, show sother (4 : Int) = false from by decide, show scount (4 : Int) = false from by decide]
      unfold blockW placeW nameW
      rw [dec_zero, dec_zero, dec_zero, dec_zero]
      refine Eq.trans (ref_eq true false (okNs m0 && okNs m1) (nm.toList.isEmpty) (false || !dn) (same ([.int pop, .int pn, .str pnm, .str pfd, .row pl] : List D) zeroE) (wthn ex.length 1 1) (okAll ex (okE d 48)) (!false || callFirst ex) mo (bd.length == 0) (en.length == 0) (el.length == 0) (e2.length == 0) (okNs en) (okNs e2) (okAll bd (okS d k)) (okAll el (okS d k)) _ n1 n2 n3 n4 (fun h => all_plain ex _ 1 1 (by omega) h)) ?_
      cases mo <;> rfl
    · refine rst_5 w0 d dp (by omega) m0 m1 nm pop pn pnm pfd pl ex dn mo bd el en e2 m0a m0c m1a m1c pla plc exa exc bda bdc ela elc ena enc e2a e2c _ _ _ _ (okName d nm) _ _ _ (okE d 48) q_m q_en q_e2 q_no q_nm q_bd q_el q_x a_ex t_ex ?_ W hW
      rw [okSx_eq]
      simp only [show sok (5 : Int) = true from by decide, show splace (5 : Int) = false from by decide, show sleast (5 : Int) = 1 from by decide, show smost (5 : Int) = 1 from by decide, show scall (5 : Int) = false from by decide, show sbody (5 : Int) = true from by decide, show sother (5 : Int) = false from by decide, show scount (5 : Int) = false from by decide]
      unfold blockW placeW nameW
      rw [dec_zero, dec_zero, dec_zero, dec_zero]
      refine Eq.trans (ref_eq true false (okNs m0 && okNs m1) (nm.toList.isEmpty) (false || !dn) (same ([.int pop, .int pn, .str pnm, .str pfd, .row pl] : List D) zeroE) (wthn ex.length 1 1) (okAll ex (okE d 48)) (!false || callFirst ex) mo (bd.length == 0) (en.length == 0) (el.length == 0) (e2.length == 0) (okNs en) (okNs e2) (okAll bd (okS d k)) (okAll el (okS d k)) _ n1 n2 n3 n4 (fun h => all_plain ex _ 1 1 (by omega) h)) ?_
      cases mo <;> rfl
    · refine rst_6 w0 d dp (by omega) m0 m1 nm pop pn pnm pfd pl ex dn mo bd el en e2 m0a m0c m1a m1c pla plc exa exc bda bdc ela elc ena enc e2a e2c _ _ _ _ (okName d nm) _ _ _ (okE d 48) q_m q_en q_e2 q_no q_nm q_bd q_el q_x a_ex t_ex ?_ W hW
      rw [okSx_eq]
      simp only [show sok (6 : Int) = true from by decide, show splace (6 : Int) = false from by decide, show sleast (6 : Int) = 2 from by decide, show smost (6 : Int) = 2 from by decide, show scall (6 : Int) = false from by decide, show sbody (6 : Int) = true from by decide, show sother (6 : Int) = false from by decide, show scount (6 : Int) = true from by decide]
      unfold blockW placeW nameW
      rw [dec_zero, dec_zero, dec_zero, dec_zero]
      refine Eq.trans (ref_eq true false (okNs m0 && okNs m1) (okName d nm) (true || !dn) (same ([.int pop, .int pn, .str pnm, .str pfd, .row pl] : List D) zeroE) (wthn ex.length 2 2) (okAll ex (okE d 48)) (!false || callFirst ex) mo (bd.length == 0) (en.length == 0) (el.length == 0) (e2.length == 0) (okNs en) (okNs e2) (okAll bd (okS d k)) (okAll el (okS d k)) _ n1 n2 n3 n4 (fun h => all_plain ex _ 2 2 (by omega) h)) ?_
      cases mo <;> simp
    · refine rst_7 w0 d dp (by omega) m0 m1 nm pop pn pnm pfd pl ex dn mo bd el en e2 m0a m0c m1a m1c pla plc exa exc bda bdc ela elc ena enc e2a e2c _ _ _ _ (okName d nm) _ _ _ (okE d 48) q_m q_en q_e2 q_pl q_nm q_bd q_el q_x a_ex t_ex ?_ W hW
      rw [okSx_eq]
      simp only [show sok (7 : Int) = true from by decide, show splace (7 : Int) = true from by decide, show sleast (7 : Int) = 0 from by decide, show smost (7 : Int) = 0 from by decide, show scall (7 : Int) = false from by decide, show sbody (7 : Int) = false from by decide, show sother (7 : Int) = false from by decide, show scount (7 : Int) = false from by decide]
      unfold blockW placeW nameW
      rw [dec_zero, dec_zero, dec_zero, dec_zero]
      refine Eq.trans (ref_eq false false (okNs m0 && okNs m1) (nm.toList.isEmpty) (false || !dn) (wthn pop 4 6 && okE d 48 [.int pop, .int pn, .str pnm, .str pfd, .row pl]) (wthn ex.length 0 0) (okAll ex (okE d 48)) (!false || callFirst ex) mo (bd.length == 0) (en.length == 0) (el.length == 0) (e2.length == 0) (okNs en) (okNs e2) (okAll bd (okS d k)) (okAll el (okS d k)) _ n1 n2 n3 n4 (fun h => all_plain ex _ 0 0 (by omega) h)) ?_
      cases mo <;> rfl
    · refine rst_8 w0 d dp (by omega) m0 m1 nm pop pn pnm pfd pl ex dn mo bd el en e2 m0a m0c m1a m1c pla plc exa exc bda bdc ela elc ena enc e2a e2c _ _ _ _ (okName d nm) _ _ _ (okE d 48) q_m q_en q_e2 q_no q_nm q_bd q_el q_x a_ex t_ex ?_ W hW
      rw [okSx_eq]
      simp only [show sok (8 : Int) = true from by decide, show splace (8 : Int) = false from by decide, show sleast (8 : Int) = 1 from by decide, show smost (8 : Int) = 1 from by decide, show scall (8 : Int) = false from by decide, show sbody (8 : Int) = false from by decide, show sother (8 : Int) = false from by decide, show scount (8 : Int) = false from by decide]
      unfold blockW placeW nameW
      rw [dec_zero, dec_zero, dec_zero, dec_zero]
      refine Eq.trans (ref_eq false false (okNs m0 && okNs m1) (nm.toList.isEmpty) (false || !dn) (same ([.int pop, .int pn, .str pnm, .str pfd, .row pl] : List D) zeroE) (wthn ex.length 1 1) (okAll ex (okE d 48)) (!false || callFirst ex) mo (bd.length == 0) (en.length == 0) (el.length == 0) (e2.length == 0) (okNs en) (okNs e2) (okAll bd (okS d k)) (okAll el (okS d k)) _ n1 n2 n3 n4 (fun h => all_plain ex _ 1 1 (by omega) h)) ?_
      cases mo <;> rfl
    · refine rst_9 w0 d dp (by omega) m0 m1 nm pop pn pnm pfd pl ex dn mo bd el en e2 m0a m0c m1a m1c pla plc exa exc bda bdc ela elc ena enc e2a e2c _ _ _ _ (okName d nm) _ _ _ (okE d 48) q_m q_en q_e2 q_no q_nm q_bd q_el q_x a_ex t_ex ?_ W hW
      rw [okSx_eq]
      simp only [show sok (9 : Int) = true from by decide, show splace (9 : Int) = false from by decide, show sleast (9 : Int) = 0 from by decide, show smost (9 : Int) = 1 from by decide, show scall (9 : Int) = false from by decide, show sbody (9 : Int) = false from by decide, show sother (9 : Int) = false from by decide, show scount (9 : Int) = false from by decide]
      unfold blockW placeW nameW
      rw [dec_zero, dec_zero, dec_zero, dec_zero]
      refine Eq.trans (ref_eq false false (okNs m0 && okNs m1) (nm.toList.isEmpty) (false || !dn) (same ([.int pop, .int pn, .str pnm, .str pfd, .row pl] : List D) zeroE) (wthn ex.length 0 1) (okAll ex (okE d 48)) (!false || callFirst ex) mo (bd.length == 0) (en.length == 0) (el.length == 0) (e2.length == 0) (okNs en) (okNs e2) (okAll bd (okS d k)) (okAll el (okS d k)) _ n1 n2 n3 n4 (fun h => all_plain ex _ 0 1 (by omega) h)) ?_
      cases mo <;> rfl
end Go.Proofs.YtciijpahjjoppaaGreat
end
section
namespace Go.Proofs.YtciijpahjjoppaaGreat
open Go.RowKit Go.Deep Go.Maps

set_option maxRecDepth 100000 in
set_option maxHeartbeats 4000000 in
theorem refVars_any (w0 : World) (d : Int) (a : Option Addr) (len cap : Nat) (l : List (List D)) (hA : At w0 (.slice a len cap) (.row l)) (hs : ∀ x ∈ l, ShV x) (W : World) (hW : Below w0.heap.size w0 W) :
    Calls Tryz.prog 32 #[.int .i64 d, .slice a len cap] W fun e W' => e = .returned (.bool (okAll l (okV d))) ∧ Below W.heap.size W W' := by
  have HA := Lib.hid hA
  have HS := Lib.hid hs
  have HW := Lib.hid hW
  have hle := hA.len_le
  have HL := Lib.hid hA.len_eq.1
  clear hA hs hW
  go_enter Tryz.func32, Tryz.ntmps32
  go_wp2_with fail
  go_loopw [5] (fun i wr => ∃ k : Nat, k ≤ len ∧ i = .int .i64 k ∧ Hid ((l.take k).all (okV d) = true) ∧ Hid (Below W.heap.size W wr)) (fun i _ => len - (intOf i).toNat)
  case atStart => exact ⟨0, Nat.zero_le _, rfl, Lib.hid rfl, Lib.hid (Below.refl _ _)⟩
  case round =>
    obtain ⟨k, hk, rfl, HT, HB⟩ := hrel
    by_cases hlt : k < len
    · obtain ⟨b, o, vs, ds, rfl, hbl, hx, hv, hc⟩ := HA.out.elem hlt
      obtain ⟨m0, m1, nm, kd, sz, tn, m0a, m0c, m1a, m1c, hds, hvs, a_m0, a_m1, i0, _, _, i3, t_m0, t_m1⟩ := hv.openV (HS.out _ (List.mem_of_getElem? hx))
      subst hvs
      have hdl : ds.length = 6 := by rw [hds]; rfl
      rw [hdl] at hc
      have HC0 := Lib.hid (hc 0 _ rfl)
      have HC1 := Lib.hid (hc 1 _ rfl)
      have HC2 := Lib.hid (hc 2 _ rfl)
      have HC3 := Lib.hid (hc 3 _ rfl)
      have HC4 := Lib.hid (hc 4 _ rfl)
      have HC5 := Lib.hid (hc 5 _ rfl)
      have B0 := HW.out.trans (HB.out.mono HW.out.size)
      have hbw : b < wr.heap.size := Nat.lt_of_lt_of_le hbl B0.size
      have c0 := ((B0).cell (p := ⟨b, o + k * 6, none⟩) hbl).trans HC0.out
      have c1 := ((B0).cell (p := ⟨b, o + k * 6 + 1, none⟩) hbl).trans HC1.out
      have c2 := ((B0).cell (p := ⟨b, o + k * 6 + 2, none⟩) hbl).trans HC2.out
      have c3 := ((B0).cell (p := ⟨b, o + k * 6 + 3, none⟩) hbl).trans HC3.out
      have c4 := ((B0).cell (p := ⟨b, o + k * 6 + 4, none⟩) hbl).trans HC4.out
      have c5 := ((B0).cell (p := ⟨b, o + k * 6 + 5, none⟩) hbl).trans HC5.out
      have HM := Lib.hid (fun (W : World) (hW : Below w0.heap.size w0 W) => refMarks_any w0 m0 m1 m0a m0c m1a m1c a_m0 a_m1 t_m0 t_m1 W hW)
      have HX := Lib.hid hx
      have HF := Lib.hid (show okV d ds = ((okNs m0 && okNs m1) && (okName d nm && okType d kd sz tn)) by rw [hds]; rfl)
      have HB0 := Lib.hid B0
      clear hx hds hdl hc B0 hv a_m0 a_m1 t_m0 t_m1
      go_wp2_with fail
      refine (HM.out _ HB0.out).mono ?_
      rintro e w1 ⟨rfl, b1⟩
      have B1 := Lib.hid (HB.out.trans (b1.mono HB.out.size))
      have Z1 := Lib.hid (HB0.out.trans (b1.mono HB0.out.size))
      clear b1 c0 c1 c2 c3 c4 c5
      have c0 := ((Z1.out).cell (p := ⟨b, o + k * 6, none⟩) hbl).trans HC0.out
      have c1 := ((Z1.out).cell (p := ⟨b, o + k * 6 + 1, none⟩) hbl).trans HC1.out
      have c2 := ((Z1.out).cell (p := ⟨b, o + k * 6 + 2, none⟩) hbl).trans HC2.out
      have c3 := ((Z1.out).cell (p := ⟨b, o + k * 6 + 3, none⟩) hbl).trans HC3.out
      have c4 := ((Z1.out).cell (p := ⟨b, o + k * 6 + 4, none⟩) hbl).trans HC4.out
      have c5 := ((Z1.out).cell (p := ⟨b, o + k * 6 + 5, none⟩) hbl).trans HC5.out
      have hbw1 : b < w1.heap.size := Nat.lt_of_lt_of_le hbl Z1.out.size
      cases h1 : (okNs m0 && okNs m1) with
      | false =>
        have HE := Lib.hid (okAll_bad (f := okV d) HX.out (by rw [HF.out, h1]; rfl))
        clear h1
        go_wp2_with fail
        go_ret
        exact ⟨by rw [HE.out]; rfl, B1.out⟩
      | true =>
        rw [h1, Bool.true_and] at HF
        clear h1
        go_wp2_with fail
        refine (refName_any d nm _ i0).mono ?_
        rintro e w2 ⟨rfl, b2⟩
        have B2 := Lib.hid (B1.out.trans (b2.mono B1.out.size))
        have Z2 := Lib.hid (Z1.out.trans (b2.mono Z1.out.size))
        clear b2 c0 c1 c2 c3 c4 c5
        have c0 := ((Z2.out).cell (p := ⟨b, o + k * 6, none⟩) hbl).trans HC0.out
        have c1 := ((Z2.out).cell (p := ⟨b, o + k * 6 + 1, none⟩) hbl).trans HC1.out
        have c2 := ((Z2.out).cell (p := ⟨b, o + k * 6 + 2, none⟩) hbl).trans HC2.out
        have c3 := ((Z2.out).cell (p := ⟨b, o + k * 6 + 3, none⟩) hbl).trans HC3.out
        have c4 := ((Z2.out).cell (p := ⟨b, o + k * 6 + 4, none⟩) hbl).trans HC4.out
        have c5 := ((Z2.out).cell (p := ⟨b, o + k * 6 + 5, none⟩) hbl).trans HC5.out
        have hbw2 : b < w2.heap.size := Nat.lt_of_lt_of_le hbl Z2.out.size
        cases h2 : okName d nm with
        | false =>
          have HE := Lib.hid (okAll_bad (f := okV d) HX.out (by rw [HF.out, h2]; rfl))
          clear h2
          go_wp2_with fail
          go_ret
          exact ⟨by rw [HE.out]; rfl, B2.out⟩
        | true =>
          rw [h2, Bool.true_and] at HF
          clear h2
          go_wp2_with fail
          refine (refType_any d kd sz tn i3 _).mono ?_
          rintro e w3 ⟨rfl, b3⟩
          have B3 := Lib.hid (B2.out.trans (b3.mono B2.out.size))
          clear b3 c0 c1 c2 c3 c4 c5
          cases h3 : okType d kd sz tn with
          | false =>
            have HE := Lib.hid (okAll_bad (f := okV d) HX.out (by rw [HF.out, h3]))
            clear h3
            go_wp2_with fail
            go_ret
            exact ⟨by rw [HE.out]; rfl, B3.out⟩
          | true =>
            have HE := Lib.hid (all_take_succ (f := okV d) HX.out HT.out (HF.out.trans h3))
            clear h3
            go_wp2_with fail
            go_roundw
            case rel => exact ⟨k + 1, by omega, by go_num, HE, B3⟩
            case measure => simp [intOf]; omega
    · obtain rfl : k = len := by omega
      have HE := Lib.hid (show okAll l (okV d) = decide ((k : Int) ≤ 512) by
        unfold okAll
        have h := HT.out
        rw [show l.take k = l by rw [← HL.out, List.take_length]] at h
        rw [h, Bool.and_true, HL.out, Bool.eq_iff_iff, decide_eq_true_eq, decide_eq_true_eq]
        omega)
      cases hq : decide ((k : Int) ≤ 512) with
      | true =>
        rw [hq] at HE
        go_wp2_with fail
        go_ret
        exact ⟨by rw [HE.out]; rfl, HB.out⟩
      | false =>
        rw [hq] at HE
        go_wp2_with fail
        go_ret
        exact ⟨by rw [HE.out]; rfl, HB.out⟩
end Go.Proofs.YtciijpahjjoppaaGreat
end
