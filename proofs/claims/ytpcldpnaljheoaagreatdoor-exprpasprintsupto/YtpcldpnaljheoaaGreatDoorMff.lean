/-
  The reference's form: walked.
-/
import Derived.Deep.CutBlock
import Derived.Deep.DeepCutAuto
import Derived.Test.YtpcldpnaljheoaaGreatDoorMdg
import Derived.Test.YtpcldpnaljheoaaGreatDoorMou
import Derived.Test.YtpcldpnaljheoaaGreatDoorMfz
namespace Go.Proofs.YtpcldpnaljheoaaGreatDoor
open Go.RowKit Go.Deep Go.Maps

theorem opsOK_cons (d op : Int) (f : List D → Bool) (up : Bool) (x : List D) (r : List (List D)) : opsOK d op f up (x :: r) = if isUp x then ((d == 1) && ((op == 7) && upD 1 x)) && opsOK d op f true r else (!up && f x) && opsOK d op f up r := rfl
/-- Operands up to the k-th are right; up tells whether an ExUp was among them. -/
def OpsTo (d op : Int) (f : List D → Bool) (l : List (List D)) (k : Nat) (up : Bool) : Prop := opsOK d op f false l = opsOK d op f up (l.drop k)
theorem OpsTo.start (d op : Int) (f : List D → Bool) (l : List (List D)) : OpsTo d op f l 0 false := by unfold OpsTo; rw [List.drop_zero]
theorem drop_at {l : List (List D)} {k : Nat} {x : List D} (hx : l[k]? = some x) : l.drop k = x :: l.drop (k + 1) := by
  obtain ⟨h, e⟩ := List.getElem?_eq_some_iff.1 hx
  rw [List.drop_eq_getElem_cons h, e]
theorem OpsTo.up {d op : Int} {f : List D → Bool} {l : List (List D)} {k : Nat} {up : Bool} {x : List D} (h : OpsTo d op f l k up) (hx : l[k]? = some x) (hu : isUp x = true) (hb : ((d == 1) && ((op == 7) && upD 1 x)) = true) : OpsTo d op f l (k + 1) true := by
  unfold OpsTo at *
  rw [h, drop_at hx, opsOK_cons]
  rw [hu, hb]
  simp
theorem OpsTo.upBad {d op : Int} {f : List D → Bool} {l : List (List D)} {k : Nat} {up : Bool} {x : List D} (h : OpsTo d op f l k up) (hx : l[k]? = some x) (hu : isUp x = true) (hb : ((d == 1) && ((op == 7) && upD 1 x)) = false) : opsOK d op f false l = false := by
  unfold OpsTo at h
  rw [h, drop_at hx, opsOK_cons]
  rw [hu, hb]
  simp
theorem OpsTo.next {d op : Int} {f : List D → Bool} {l : List (List D)} {k : Nat} {x : List D} (h : OpsTo d op f l k false) (hx : l[k]? = some x) (hu : isUp x = false) (hb : f x = true) : OpsTo d op f l (k + 1) false := by
  unfold OpsTo at *
  rw [h, drop_at hx, opsOK_cons]
  rw [hu, hb]
  simp
theorem OpsTo.nextBad {d op : Int} {f : List D → Bool} {l : List (List D)} {k : Nat} {x : List D} (h : OpsTo d op f l k false) (hx : l[k]? = some x) (hu : isUp x = false) (hb : f x = false) : opsOK d op f false l = false := by
  unfold OpsTo at h
  rw [h, drop_at hx, opsOK_cons]
  rw [hu, hb]
  simp
theorem OpsTo.behind {d op : Int} {f : List D → Bool} {l : List (List D)} {k : Nat} {x : List D} (h : OpsTo d op f l k true) (hx : l[k]? = some x) (hu : isUp x = false) : opsOK d op f false l = false := by
  unfold OpsTo at h
  rw [h, drop_at hx, opsOK_cons]
  rw [hu]
  simp
theorem OpsTo.done {d op : Int} {f : List D → Bool} {l : List (List D)} {up : Bool} (h : OpsTo d op f l l.length up) : opsOK d op f false l = true := by
  unfold OpsTo at h
  rw [h, List.drop_length]
  unfold opsOK
  rfl
theorem nB_1 (n : Int) (h : n ≤ 9223372036854775807) : nB 1 n = decide (0 ≤ n) := by
  unfold nB; rw [show fmost 1 = 9223372036854775807 from rfl, decide_eq_true h, Bool.and_true]
theorem nB_2 (n : Int) : nB 2 n = ((n == 0) || (n == 1)) := by
  unfold nB; rw [show fmost 2 = 1 from rfl, Bool.eq_iff_iff]; simp; omega
theorem nB_3 (n : Int) : nB 3 n = (decide (0 ≤ n) && decide (n ≤ 255)) := rfl
theorem nB_else (op n : Int) (h1 : op ≠ 1) (h2 : op ≠ 2) (h3 : op ≠ 3) : nB op n = (n == 0) := by
  unfold nB fmost; rw [if_neg h1, if_neg h2, if_neg h3]; exact zero_of n
set_option maxRecDepth 100000 in
set_option maxHeartbeats 4000000 in
theorem form_step (w0 : World) (d : Int) (hd : d = 0) (m : Nat) (hm : m < 1000) (op n : Int) (nm fd : ByteArray) (la : Option Addr) (l : List (List D)) (lc : Nat) (hn2 : n ≤ 9223372036854775807) (hnm : nm.size ≤ 2000000) (hfd : fd.size ≤ 2000000) (hA : At w0 (.slice la l.length lc) (.row l)) (hs : ∀ x ∈ l, ShE x) (hsm : ∀ x ∈ l, mRow x ≤ 2000000)
    (hf : ∀ x ∈ l, ∀ vs, AllAt w0 vs x → ∀ W, Below w0.heap.size w0 W → Calls Tryz.prog 29 #[.int .i64 d, .agg ⟨vs⟩, .int .i64 (m : Nat)] W fun e W' => e = .returned (.bool (okE d m x)) ∧ Below W.heap.size W W') (w : World) (hW : Below w0.heap.size w0 w) :
    Calls Tryz.prog 29 #[.int .i64 d, .agg #[.int .i64 op, .int .i64 n, .string nm, .string fd, .slice la l.length lc], .int .i64 ((m + 1 : Nat) : Int)] w fun e w' => e = .returned (.bool (refE d op n nm fd l (okE d m))) ∧ Below w.heap.size w w' := by
  have HA := Lib.hid hA
  have HS := Lib.hid hs
  have HSM := Lib.hid hsm
  have HF := Lib.hid hf
  have HW := Lib.hid hW
  have HD := Lib.hid hd
  have hle := hA.len_le
  have hm0 : (((m + 1 : Nat) : Int) == 0) = false := by simp; omega
  have KB := Lib.hid (heap_new w (.cells #[.int .i64 op, .int .i64 n, .string nm, .string fd, .slice la l.length lc] 25))
  have R0 := Lib.hid ((Below.refl w.heap.size w).alloc (Nat.le_refl _) (.cells #[.int .i64 op, .int .i64 n, .string nm, .string fd, .slice la l.length lc] 25))
  clear hA hs hsm hf hW hd
  have HO := Lib.hid (show refE d op n nm fd l (okE d m) = (decide (l.length ≤ 512) && (fok7 op && (nB op n && (naB d op nm && (fiB d op fd && ((((l.length : Nat) : Int) == wantE op l.length) && opsOK d op (okE d m) false l)))))) from rfl)
  generalize hmm : ((m + 1 : Nat) : Int) = mm at *
  have HM := Lib.hid hmm
  clear hmm
  by_cases hlen : ¬ l.length ≤ 512
  · have hg : decide (512 < l.length) = true := by simp; omega
    have HO2 := Lib.hid (show refE d op n nm fd l (okE d m) = false by rw [HO.out, decide_eq_false hlen]; rfl)
    go_enter Tryz.func29, Tryz.ntmps29
    go_wp2_with fail
    go_ret
    exact ⟨by rw [HO2.out]; rfl, R0.out⟩
  replace hlen : l.length ≤ 512 := Classical.not_not.1 hlen
  have hg : decide (512 < l.length) = false := by simp; omega
  rw [decide_eq_true hlen, Bool.true_and] at HO
  go_enter Tryz.func29, Tryz.ntmps29
  go_wp2_with fail
  go_quiet (fail)
  go_upto_block 0 with fail
  go_cut [7, 8, 9, 10] (fun a b c e wc => a = .int .i64 (wantE op l.length) ∧ b = .bool (nB op n) ∧ c = .bool (naB d op nm) ∧ e = .bool (fiB d op fd) ∧ fok7 op = true ∧ Hid (wc.heap[w.heap.size]? = some (.cells #[.int .i64 op, .int .i64 n, .string nm, .string fd, .slice la l.length lc] 25)) ∧ Below w.heap.size w wc)
  case first =>
    by_cases h1 : op = 1
    · subst h1
      have E := Lib.hid (nB_1 n hn2)
      go_wp2_with fail
      go_meet
      exact ⟨rfl, by rw [E.out], rfl, rfl, rfl, KB, below_drewN R0.out _⟩
    by_cases h2 : op = 2
    · subst h2
      have E := Lib.hid (nB_2 n)
      cases hz : n == 0 with
      | true =>
        rw [hz] at E
        go_wp2_with fail
        go_meet
        exact ⟨rfl, by rw [E.out]; rfl, rfl, rfl, rfl, KB, below_drewN R0.out _⟩
      | false =>
        rw [hz] at E
        go_wp2_with fail
        go_meet
        exact ⟨rfl, by rw [E.out]; rfl, rfl, rfl, rfl, KB, below_drewN R0.out _⟩
    by_cases h3 : op = 3
    · subst h3
      have E := Lib.hid (nB_3 n)
      cases hz : decide (0 ≤ n) with
      | true =>
        rw [hz] at E
        go_wp2_with fail
        go_meet
        exact ⟨rfl, by rw [E.out]; rfl, rfl, rfl, rfl, KB, below_drewN R0.out _⟩
      | false =>
        rw [hz] at E
        go_wp2_with fail
        go_meet
        exact ⟨rfl, by rw [E.out]; rfl, rfl, rfl, rfl, KB, below_drewN R0.out _⟩
    have E := Lib.hid (nB_else op n h1 h2 h3)
    by_cases h4 : op = 4
    · subst h4
      have EN := Lib.hid (show naB d 4 nm = okName d nm from rfl)
      go_wp2_with fail
      refine (refName_any d nm _ (by unfold maxLen; omega)).mono ?_
      rintro e w1 ⟨rfl, b1⟩
      have B1 := Lib.hid ((below_drewN R0.out _).trans (b1.mono (below_drewN R0.out _).size))
      have K1 := Lib.hid ((b1.block _ (heap_lt KB.out)).trans KB.out)
      clear b1
      generalize okName d nm = r at *
      go_wp2_with fail
      go_meet
      exact ⟨rfl, by rw [E.out], by rw [EN.out], rfl, rfl, K1, B1.out⟩
    by_cases h5 : op = 5
    · subst h5
      have EN := Lib.hid (show naB d 5 nm = okName d nm from rfl)
      go_wp2_with fail
      refine (refName_any d nm _ (by unfold maxLen; omega)).mono ?_
      rintro e w1 ⟨rfl, b1⟩
      have B1 := Lib.hid ((below_drewN R0.out _).trans (b1.mono (below_drewN R0.out _).size))
      have K1 := Lib.hid ((b1.block _ (heap_lt KB.out)).trans KB.out)
      clear b1
      generalize okName d nm = r at *
      go_wp2_with fail
      go_meet
      exact ⟨rfl, by rw [E.out], by rw [EN.out], rfl, rfl, K1, B1.out⟩
    by_cases h6 : op = 6
    · subst h6
      have EN := Lib.hid (show naB d 6 nm = okName d nm from rfl)
      have EF := Lib.hid (show fiB d 6 fd = okName d fd from rfl)
      go_wp2_with fail
      refine (refName_any d nm _ (by unfold maxLen; omega)).mono ?_
      rintro e w1 ⟨rfl, b1⟩
      have B1 := Lib.hid ((below_drewN R0.out _).trans (b1.mono (below_drewN R0.out _).size))
      have K1 := Lib.hid ((b1.block _ (heap_lt KB.out)).trans KB.out)
      have cc := box_cells K1.out
      clear b1
      generalize okName d nm = r at *
      go_wp2_with fail
      refine (refName_any d fd _ (by unfold maxLen; omega)).mono ?_
      rintro e w2 ⟨rfl, b2⟩
      have B2 := Lib.hid (B1.out.trans (b2.mono B1.out.size))
      have K2 := Lib.hid ((b2.block _ (heap_lt K1.out)).trans K1.out)
      clear b2 cc
      generalize okName d fd = r2 at *
      go_wp2_with fail
      go_meet
      exact ⟨rfl, by rw [E.out], by rw [EN.out], by rw [EF.out], rfl, K2, B2.out⟩
    by_cases h7 : op = 7
    · subst h7
      have EN := Lib.hid (show naB d 7 nm = okR d nm from rfl)
      go_wp2_with fail
      refine (refRoutine_z d HD.out nm _ hnm).mono ?_
      rintro e w1 ⟨rfl, b1⟩
      have B1 := Lib.hid ((below_drewN R0.out _).trans (b1.mono (below_drewN R0.out _).size))
      have K1 := Lib.hid ((b1.block _ (heap_lt KB.out)).trans KB.out)
      have cc := box_cells K1.out
      clear b1
      generalize okR d nm = r at *
      go_wp2_with fail
      go_meet
      exact ⟨rfl, by rw [E.out], by rw [EN.out], rfl, rfl, K1, B1.out⟩
    by_cases h8 : op = 8 ∨ op = 9
    · rcases h8 with rfl | rfl
      all_goals
        go_wp2_with fail
        go_meet
        exact ⟨rfl, by rw [E.out], rfl, rfl, rfl, KB, below_drewN R0.out _⟩
    by_cases h10 : 10 ≤ op ∧ op ≤ 24
    · have : op = 10 ∨ op = 11 ∨ op = 12 ∨ op = 13 ∨ op = 14 ∨ op = 15 ∨ op = 16 ∨ op = 17 ∨ op = 18 ∨ op = 19 ∨ op = 20 ∨ op = 21 ∨ op = 22 ∨ op = 23 ∨ op = 24 := by omega
      clear h1 h2 h3 h4 h5 h6 h7 h8 h10
      rcases this with rfl | rfl | rfl | rfl | rfl | rfl | rfl | rfl | rfl | rfl | rfl | rfl | rfl | rfl | rfl
      all_goals
        go_wp2_with fail
        go_meet
        exact ⟨rfl, by rw [E.out], rfl, rfl, rfl, KB, below_drewN R0.out _⟩
    have HN := Lib.hid (show fok7 op = false by unfold fok7 fok wthn; simp; omega)
    have HO2 := Lib.hid (show refE d op n nm fd l (okE d m) = false by rw [HO.out, HN.out]; rfl)
    have g1 : (op == 1) = false := by simp; omega
    have g2 : (op == 2) = false := by simp; omega
    have g3 : (op == 3) = false := by simp; omega
    have g4 : (op == 4) = false := by simp; omega
    have g5 : (op == 5) = false := by simp; omega
    have g6 : (op == 6) = false := by simp; omega
    have g7 : (op == 7) = false := by simp; omega
    have g8 : (op == 8) = false := by simp; omega
    have g9 : (op == 9) = false := by simp; omega
    have g10 : (op == 10) = false := by simp; omega
    have g11 : (op == 11) = false := by simp; omega
    have g12 : (op == 12) = false := by simp; omega
    have g13 : (op == 13) = false := by simp; omega
    have g14 : (op == 14) = false := by simp; omega
    have g15 : (op == 15) = false := by simp; omega
    have g16 : (op == 16) = false := by simp; omega
    have g17 : (op == 17) = false := by simp; omega
    have g18 : (op == 18) = false := by simp; omega
    have g19 : (op == 19) = false := by simp; omega
    have g20 : (op == 20) = false := by simp; omega
    have g21 : (op == 21) = false := by simp; omega
    have g22 : (op == 22) = false := by simp; omega
    have g23 : (op == 23) = false := by simp; omega
    have g24 : (op == 24) = false := by simp; omega
    clear h1 h2 h3 h4 h5 h6 h7 h8 h10
    go_wp2_with fail
    go_ret
    exact ⟨by rw [HO2.out]; rfl, below_drewN R0.out _⟩
  case rest =>
    obtain ⟨rfl, rfl, rfl, rfl, hok, KK, hb⟩ := hcut
    have HB := Lib.hid hb
    have cc := box_cells KK.out
    rw [hok, Bool.true_and] at HO
    clear hb hok KB R0
    have HFP := Lib.hid (show ∀ b : Bool, refE d op n nm fd l (okE d m) = b → (Ending.returned (.bool b) = Ending.returned (.bool (refE d op n nm fd l (okE d m)))) from fun b h => by rw [h])
    generalize nB op n = b1 at *
    generalize naB d op nm = b2 at *
    generalize fiB d op fd = b3 at *
    generalize wantE op l.length = wt at *
    cases b1 with
    | false =>
      have HO2 := Lib.hid (HO.out.trans rfl)
      go_wp2_with fail
      go_ret
      exact ⟨by rw [HO2.out]; rfl, HB.out⟩
    | true =>
    cases b2 with
    | false =>
      have HO2 := Lib.hid (HO.out.trans rfl)
      go_wp2_with fail
      go_ret
      exact ⟨by rw [HO2.out]; rfl, HB.out⟩
    | true =>
    cases b3 with
    | false =>
      have HO2 := Lib.hid (HO.out.trans rfl)
      go_wp2_with fail
      go_ret
      exact ⟨by rw [HO2.out]; rfl, HB.out⟩
    | true =>
    cases hq : ((l.length : Int) == wt) with
    | false =>
      have hq2 : ((l.length : Int) != wt) = true := by rw [bne, hq]; rfl
      rw [hq] at HO
      have HO2 := Lib.hid (HO.out.trans rfl)
      clear hq
      go_wp2_with fail
      go_ret
      exact ⟨by rw [HO2.out]; rfl, HB.out⟩
    | true =>
    have hq2 : ((l.length : Int) != wt) = false := by rw [bne, hq]; rfl
    rw [hq] at HO
    have HO2 := Lib.hid (show refE d op n nm fd l (okE d m) = opsOK d op (okE d m) false l from HO.out.trans (by simp))
    clear hq HO
    go_wp2_with fail
    go_loopw [11, 12] (fun uv iv wr => ∃ (k : Nat) (up : Bool), k ≤ l.length ∧ iv = .int .i64 k ∧ uv = .bool up ∧ Hid (OpsTo d op (okE d m) l k up) ∧ Hid (wr.heap[w.heap.size]? = some (.cells #[.int .i64 op, .int .i64 n, .string nm, .string fd, .slice la l.length lc] 25)) ∧ Hid (Below w.heap.size w wr)) (fun _ i _ => l.length - (intOf i).toNat)
    case atStart => exact ⟨0, false, Nat.zero_le _, rfl, rfl, Lib.hid (OpsTo.start _ _ _ _), KK, HB⟩
    case round =>
      obtain ⟨k, up, hk, rfl, rfl, HT, KR, HR⟩ := hrel
      clear cc
      have cc := box_cells KR.out
      have hww : w.heap.size < wr.heap.size := heap_lt KR.out
      by_cases hlt : k < l.length
      · obtain ⟨b, o, vs, ds, rfl, hbl, hx, hv, hc⟩ := HA.out.elem hlt
        have hmem := List.mem_of_getElem? hx
        have hfn := HF.out ds hmem vs hv
        have hmr := HSM.out ds hmem
        obtain ⟨op2, n2, nm2, fd2, kl, kla, klc, hds, hvs, _⟩ := hv.openE (HS.out _ hmem)
        subst hvs
        rw [hds] at hmr
        simp only [mRow, mD] at hmr
        have hdl : ds.length = 5 := by rw [hds]; rfl
        rw [hdl] at hc
        have B0 := HW.out.trans (HR.out.mono HW.out.size)
        have c0 := (B0.cell (p := ⟨b, o + k * 5, none⟩) hbl).trans (hc 0 _ rfl)
        have c1 := (B0.cell (p := ⟨b, o + k * 5 + 1, none⟩) hbl).trans (hc 1 _ rfl)
        have c2 := (B0.cell (p := ⟨b, o + k * 5 + 2, none⟩) hbl).trans (hc 2 _ rfl)
        have c3 := (B0.cell (p := ⟨b, o + k * 5 + 3, none⟩) hbl).trans (hc 3 _ rfl)
        have c4 := (B0.cell (p := ⟨b, o + k * 5 + 4, none⟩) hbl).trans (hc 4 _ rfl)
        have hbw : b < wr.heap.size := Nat.lt_of_lt_of_le hbl B0.size
        have a1 := (Below.refl wr.heap.size wr).alloc (Nat.le_refl _) (.cells #[.int .i64 op2, .int .i64 n2, .string nm2, .string fd2, .slice kla kl.length klc] 25)
        have R1 := Lib.hid (HR.out.trans (a1.mono HR.out.size))
        have K1 := Lib.hid ((a1.block _ (heap_lt KR.out)).trans KR.out)
        have FN := Lib.hid (hfn _ (HW.out.trans (R1.out.mono HW.out.size)))
        have HX := Lib.hid hx
        have HU := Lib.hid (show isUp ds = (op2 == 25) by rw [hds]; rfl)
        have HUP := Lib.hid (show upD 1 ds = ((op2 == 25) && ((n2 == 0) && (fd2.toList.isEmpty && (decide (kl.length = 0) && okName 1 nm2)))) by rw [hds]; rfl)
        have hn2s : nm2.size ≤ maxLen := by unfold maxLen; omega
        clear hx hds hdl hc B0 hv hfn a1 hmr hmem
        cases hu : op2 == 25 with
        | true =>
          have hui := HU.out.trans hu
          rw [hu, Bool.true_and] at HUP
          have HUI := Lib.hid hui
          clear hui
          cases h1 : d == 1 with
          | false =>
            have h1' : (d != 1) = true := by rw [bne, h1]; rfl
            have HE := Lib.hid (HT.out.upBad HX.out HUI.out (by rw [h1]; rfl))
            clear h1
            go_wp2_with fail
            go_ret
            exact ⟨by rw [HO2.out, HE.out]; rfl, R1.out⟩
          | true =>
          have h1' : (d != 1) = false := by rw [bne, h1]; rfl
          cases h7 : op == 7 with
          | false =>
            have h7' : (op != 7) = true := by rw [bne, h7]; rfl
            have HE := Lib.hid (HT.out.upBad HX.out HUI.out (by rw [h7]; simp))
            clear h1 h7
            go_wp2_with fail
            go_ret
            exact ⟨by rw [HO2.out, HE.out]; rfl, R1.out⟩
          | true =>
          have h7' : (op != 7) = false := by rw [bne, h7]; rfl
          have HD1 := Lib.hid h1
          have HO7 := Lib.hid h7
          clear h1 h7
          go_wp2_with fail
          refine (refName_any 1 nm2 _ hn2s).mono ?_
          rintro e w3 ⟨rfl, b3⟩
          have R3 := Lib.hid (R1.out.trans (b3.mono R1.out.size))
          have K3 := Lib.hid ((b3.block _ (heap_lt K1.out)).trans K1.out)
          have c5 := box_cells ((b3.block _ (heap_lt (heap_new wr (.cells #[.int .i64 op2, .int .i64 n2, .string nm2, .string fd2, .slice kla kl.length klc] 25)))).trans (heap_new wr (.cells #[.int .i64 op2, .int .i64 n2, .string nm2, .string fd2, .slice kla kl.length klc] 25)))
          clear b3 c0 c1 c2 c3 c4 cc
          cases hnm3 : okName 1 nm2 with
          | false =>
            rw [hnm3] at HUP
            have HE := Lib.hid (HT.out.upBad HX.out HUI.out (by rw [HUP.out]; simp))
            go_wp2_with fail
            go_ret
            exact ⟨by rw [HO2.out, HE.out]; rfl, R3.out⟩
          | true =>
          rw [hnm3] at HUP
          cases hz : n2 == 0 with
          | false =>
            have hz' : (n2 != 0) = true := by rw [bne, hz]; rfl
            rw [hz] at HUP
            have HE := Lib.hid (HT.out.upBad HX.out HUI.out (by rw [HUP.out]; simp))
            go_wp2_with fail
            go_ret
            exact ⟨by rw [HO2.out, HE.out]; rfl, R3.out⟩
          | true =>
          have hz' : (n2 != 0) = false := by rw [bne, hz]; rfl
          rw [hz] at HUP
          cases hfe : fd2.toList.isEmpty with
          | false =>
            rw [hfe] at HUP
            have HE := Lib.hid (HT.out.upBad HX.out HUI.out (by rw [HUP.out]; simp))
            go_wp2_with fail
            go_ret
            exact ⟨by rw [HO2.out, HE.out]; rfl, R3.out⟩
          | true =>
          rw [hfe] at HUP
          by_cases hk0 : kl.length = 0
          · rw [decide_eq_true hk0] at HUP
            have HE := Lib.hid (HT.out.up HX.out HUI.out (by rw [HUP.out, HD1.out, HO7.out]; rfl))
            have hk1 : ((kl.length : Int) != 0) = false := by simp [hk0]
            have hk2 : (kl.length == 0) = true := by simp [hk0]
            clear hk0
            go_wp2_with fail
            go_roundw
            case rel => exact ⟨k + 1, true, by omega, by go_num, rfl, HE, K3, R3⟩
            case measure => simp [intOf]; omega
          · rw [decide_eq_false hk0] at HUP
            have HE := Lib.hid (HT.out.upBad HX.out HUI.out (by rw [HUP.out]; simp))
            have hk1 : ((kl.length : Int) != 0) = true := by rw [bne_iff_ne]; omega
            have hk2 : (kl.length == 0) = false := by simpa using hk0
            clear hk0
            go_wp2_with fail
            go_ret
            exact ⟨by rw [HO2.out, HE.out]; rfl, R3.out⟩
        | false =>
          have HUI := Lib.hid (HU.out.trans hu)
          cases up with
          | true =>
            have HE := Lib.hid (HT.out.behind HX.out HUI.out)
            go_wp2_with fail
            go_ret
            exact ⟨by rw [HO2.out, HE.out]; rfl, R1.out⟩
          | false =>
          have hsub : mm - 1 = (m : Nat) := by have := HM.out; omega
          go_wp2_with fail
          refine FN.out.mono ?_
          rintro e w3 ⟨rfl, b3⟩
          have R3 := Lib.hid (R1.out.trans (b3.mono R1.out.size))
          have K3 := Lib.hid ((b3.block _ (heap_lt K1.out)).trans K1.out)
          clear b3 c0 c1 c2 c3 c4 cc
          cases hr : okE d m ds with
          | false =>
            have HE := Lib.hid (HT.out.nextBad HX.out HUI.out hr)
            go_wp2_with fail
            go_ret
            exact ⟨by rw [HO2.out, HE.out]; rfl, R3.out⟩
          | true =>
            have HE := Lib.hid (HT.out.next HX.out HUI.out hr)
            go_wp2_with fail
            go_roundw
            case rel => exact ⟨k + 1, false, by omega, by go_num, rfl, HE, K3, R3⟩
            case measure => simp [intOf]; omega
      · obtain rfl : k = l.length := by omega
        have HE := Lib.hid (HT.out.done)
        go_wp2_with fail
        go_ret
        exact ⟨by rw [HO2.out, HE.out]; rfl, HR.out⟩
end Go.Proofs.YtpcldpnaljheoaaGreatDoor
