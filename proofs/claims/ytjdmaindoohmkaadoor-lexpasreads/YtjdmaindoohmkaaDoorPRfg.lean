/-
  The reference's All, walked.
-/
import Derived.Test.YtjdmaindoohmkaaDoorPRff
import Derived.Test.YtjdmaindoohmkaaDoorPRfe
import Derived.Test.YtjdmaindoohmkaaDoorPBar
import Derived.StillTailTactics
namespace Go.Proofs.YtjdmaindoohmkaaDoor.P
open Go.RowKit Go.Sort

theorem below_drew {B : Nat} {a w : World} (h : Below B a w) : Below B a w.drew := ⟨h.os, h.tape, h.output, h.size, h.block⟩
theorem AS.setC {w wr : World} {k : Nat} {s : ByteArray} {v : Value} {acc : List Tk} {q o : Nat} {u : Value} (h : AS w s k v acc wr) (hq : w.heap.size + 2 ≤ q) (hn : v.ownBlock ≠ some q) : AS w s k v acc (wr.setCell ⟨q, o, none⟩ u) := by
  have ne : ∀ b, b ≠ q → (wr.setCell ⟨q, o, none⟩ u).heap[b]? = wr.heap[b]? := fun b hb => Below.heap_setCell _ _ _ _ (by simp; omega)
  exact ⟨⟨(ne _ (by omega)).trans h.pos.blk⟩, h.own.kept fun b hb => ne b (fun e => hn (e ▸ hb)), (ne _ (by omega)).trans h.dz, h.bel.setCell (by simp; omega) _⟩
theorem AS.mkk {w wr : World} {s : ByteArray} {k : Nat} {v : Value} {acc : List Tk} (h : AS w s k v acc wr) : AS w s k v acc wr := h
/-- What All leaves. -/
def ToksB (s : ByteArray) (r : Res) (w : World) (e : Ending) (w' : World) : Prop := ∃ v, e = .returned (.tuple #[v, diagV s r]) ∧ OwnT w.heap.size w' v r.toks ∧ Below w.heap.size w w'
set_option maxHeartbeats 1000000 in
theorem refAll_long (s : ByteArray) (w : World) (hl : 65536 < s.size) : Calls Tryd.prog 14 #[.int .i64 0, .string s] w (ToksB s ⟨3, 0, []⟩ w) := by
  have d : decide ((65536 : Int) < (s.size : Int)) = true := by simp; omega
  go_enter Tryd.func14, Tryd.ntmps14
  go_wp2_with fail
  exact bodyPost_ret (v := .tuple #[.slice none 0 0, diagV s ⟨3, 0, []⟩]) (by simp [results, Tryd.results14, go_sem, diagV, line_zero, col_zero]) rfl ⟨_, rfl, OwnT.nil _ _, (Below.refl _ _).alloc (Nat.le_refl _) _⟩
set_option maxRecDepth 100000 in
set_option maxHeartbeats 8000000 in
theorem refAll_any2 (s : ByteArray) (w : World) (hl : s.size ≤ 65536) : Calls Tryd.prog 14 #[.int .i64 0, .string s] w (ToksB s (lexN s (s.size + 1) 0 (-1) []) w) := by
  have hsm : s.size ≤ maxLen := by unfold maxLen; omega
  have d : decide ((65536 : Int) < (s.size : Int)) = false := by simp; omega
  have ST := Lib.hid (show AS w s 0 (.slice none 0 0) [] ((w.alloc (.cells #[.int .i64 0, .int .i64 0, .int .i64 0, .int .i64 0] 28)).alloc (.cells #[.int .i64 0, .int .i64 0, .int .i64 0] 26)) by
    have hz : (w.alloc (.cells #[.int .i64 0, .int .i64 0, .int .i64 0, .int .i64 0] 28)).heap.size = w.heap.size + 1 := by simp
    refine ⟨⟨?_⟩, OwnT.nil _ _, ?_, ((Below.refl _ _).alloc (Nat.le_refl _) _).alloc (by simp) _⟩
    · rw [← hz, heap_new, line_zero, col_zero]; rfl
    · rw [((Below.refl _ (w.alloc (.cells #[.int .i64 0, .int .i64 0, .int .i64 0, .int .i64 0] 28))).alloc (Nat.le_refl _) _).block w.heap.size (by simp), heap_new])
  generalize hR : lexN s (s.size + 1) 0 (-1) [] = R
  have HR := Lib.hid hR
  clear hR
  go_enter Tryd.func14, Tryd.ntmps14
  go_wp2_with fail
  generalize (w.alloc (.cells #[.int .i64 0, .int .i64 0, .int .i64 0, .int .i64 0] 28)).alloc (.cells #[.int .i64 0, .int .i64 0, .int .i64 0] 26) = w0 at ST ⊢
  clear d
  go_loopw [6, 8] (fun v l wr => ∃ (k m : Nat) (last : Int) (acc : List Tk), l = .int .i64 last ∧ AS w s k v acc wr ∧ s.size - k < m ∧ lexN s m k last acc = R ∧ acc.length ≤ k ∧ k ≤ s.size) (fun _ _ wr => leftP s (w.heap.size + 1) wr)
  case atStart => exact ⟨0, s.size + 1, -1, [], rfl, ST.out, by omega, HR.out, by simp, Nat.zero_le _⟩
  case round =>
    obtain ⟨k, m, last, acc, rfl, hst, hm, hlx, hal, hk⟩ := hrel
    have S := Lib.hid hst
    have LX := Lib.hid hlx
    clear hst hlx ST HR
    obtain ⟨m, rfl⟩ : ∃ m', m = m' + 1 := ⟨m - 1, by omega⟩
    obtain ⟨wo, hwo⟩ : ∃ wo, wo = wr := ⟨_, rfl⟩
    subst hwo
    go_wp2_with fail
    go_loopw [] (fun wj => ∃ j, k ≤ j ∧ j ≤ s.size ∧ blEnd s k = blEnd s j ∧ AS w s j u6 acc wj) (fun wj => leftP s (w.heap.size + 1) wj)
    case atStart => exact ⟨k, Nat.le_refl _, hk, rfl, S.out⟩
    case round =>
      obtain ⟨j, hkj, hj, hbe, hsj⟩ := hrel
      have SJ := Lib.hid hsj
      have BE := Lib.hid hbe
      clear hsj hbe
      by_cases hlt : j < s.size
      · have hbt := bt_eq s j hlt
        have hH := fun w1 => has_any setR (bt s j).toNat w1 (by decide)
        rw [setR_is] at hH
        cases hbl : isBl (bt s j) with
        | true =>
          rw [hbl] at hH
          have HH := Lib.hid hH
          have BE2 := Lib.hid (BE.out.trans (blEnd_in s j hlt hbl))
          have p00 := SJ.out.pos.c0
          clear hH hbl
          go_wp2_with fail
          refine (HH.out _).mono ?_
          rintro e w3 ⟨rfl, rfl⟩
          clear p00
          have p0 := SJ.out.pos.c0
          have p1 := SJ.out.pos.c1
          have p2 := SJ.out.pos.c2
          have pf := SJ.out.pos.fz
          have hlt7 := SJ.out.pos.lt
          go_wp2_with fail
          go_still_tail 5, (by kernel_rfl)
          have SD := Lib.hid SJ.out.drew
          clear p0 p1 p2 pf
          go_wp2_with fail
          refine (step_any s j _ hlt hsm).mono ?_
          rintro e wz ⟨rfl, bz⟩
          have SZ := Lib.hid (SD.out.below bz)
          have p0 := SZ.out.pos.c0
          have p1 := SZ.out.pos.c1
          have p2 := SZ.out.pos.c2
          have pf := SZ.out.pos.fz
          clear bz SD
          go_wp2_with fail
          go_roundw
          case rel => exact ⟨j + 1, by omega, by omega, BE2.out, SZ.out.move (j + 1)⟩
          case measure => have h := leftP_at (SZ.out.move (j + 1)).pos; rw [show ((j + 1 : Nat) : Int) = (j : Int) + 1 from rfl] at h; rw [h, leftP_at SJ.out.pos]; omega
        | false =>
          rw [hbl] at hH
          have HH := Lib.hid hH
          have HJ := Lib.hid (BE.out.trans (blEnd_out s j (fun h => by rw [hbl] at h; exact absurd h.2 (by decide))))
          clear hH hbl
          have p00 := SJ.out.pos.c0
          have p01 := SJ.out.pos.c1
          have p02 := SJ.out.pos.c2
          have hp7 := SJ.out.pos.lt
          have hilt : (j : Int) ≤ (s.size : Int) := by omega
          have hF := fun w1 => first_any (restOf s j) w1 (by rw [restOf_size]; omega) (by rw [restOf_size]; omega)
          rw [restOf_l, ← ext_rest] at hF
          generalize hf : fdAt s j = f
          have hfu := fd_use s j hlt
          have hf2 : tokL (s.data.toList.drop j) = f := hf
          rw [hf2] at hF
          rw [hf] at hfu
          have HFst := Lib.hid hF
          have HF := Lib.hid (show fdAt s (blEnd s k) = f by rw [HJ.out]; exact hf)
          have HFU := Lib.hid hfu
          clear hf hf2 hF hfu
          go_wp2_with fail
          refine (HH.out _).mono ?_
          rintro e w3 ⟨rfl, rfl⟩
          go_wp2_with fail
          have Z9 := Lib.hid (TokZ.new w3)
          have S9 := Lib.hid (SJ.out.below ((Below.refl _ _).alloc (Nat.le_refl _) (.cells #[.int .i64 0, .string ⟨#[]⟩, .int .i64 0, .bool false, .int .i64 0, .int .i64 0, .int .i64 0] 38)))
          have h9n : w.heap.size + 2 ≤ w3.heap.size := by have := SJ.out.pos.lt; omega
          have HNE := Lib.hid (show u6.ownBlock ≠ some w3.heap.size from fun e => by have := (SJ.out.own.lt _ e).2; omega)
          clear p00 p01 p02
          generalize hq : w3.alloc (.cells #[.int .i64 0, .string ⟨#[]⟩, .int .i64 0, .bool false, .int .i64 0, .int .i64 0, .int .i64 0] 38) = w4 at Z9 S9 ⊢
          clear hq
          refine (HFst.out _).mono ?_
          rintro e w5 ⟨v5, rfl, hfv, b5⟩
          obtain ⟨fk, fn, fu, ft, rfl, hfo⟩ := hfv
          have Z5 := Lib.hid (Z9.out.below b5)
          have S5 := Lib.hid (S9.out.below b5)
          have HFO := Lib.hid hfo
          clear b5 hfo Z9 S9
          have S6 := Lib.hid (S5.out.below ((Below.refl _ _).alloc (Nat.le_refl _) (.cells #[.int .i64 fk, .string ft, .int .i64 fn, .bool false, .int .i64 0, .int .i64 0, .int .i64 0, .int .i64 fu, .int .i64 (f.err : Nat)] 54)))
          have p00 := S5.out.pos.c0
          have p01 := S5.out.pos.c1
          have p02 := S5.out.pos.c2
          have hp7 := S5.out.pos.lt
          obtain ⟨g0, g1, g2, g3, g4, g5, g6, gf⟩ := Z5.out.facts
          have hz5 := Z5.out.lt
          by_cases he : f.err = 0
          · obtain ⟨rfl, rfl, rfl, rfl⟩ := HFO.out he
            have d1 : ((f.err : Int) != 0) = false := by rw [he]; rfl
            have hu := HFU.out he
            have hkd : f.kind ≠ 0 := by omega
            generalize hsm2 : decide ((lineOf s j : Int) = last) = sm
            have d2 : (last == (lineOf s j : Int)) = sm := by rw [← hsm2, Bool.beq_eq_decide_eq, decide_eq_decide]; exact ⟨fun h => h.symm, fun h => h.symm⟩
            have d3 : ((f.kind : Int) == 0) = false := by simp; omega
            have HLX := Lib.hid (show lexN s m (j + f.used) (lineOf s (j + f.used)) (acc ++ [(⟨f.kind, f.text, f.n, sm, j, lineOf s j, colOf s j⟩ : Tk)]) = R by rw [← LX.out, lexN_tok HF.out he hkd, HJ.out, ← hsm2]; rfl)
            have hal2 : acc.length ≤ 100000 := by omega
            clear hsm2 HFO HFst
            go_wp2_with fail
            go_region
            obtain ⟨W6, hW6⟩ : ∃ W6, W6 = ((((((((w5.setCell ⟨w3.heap.size, 0, none⟩ (.int .i64 (f.kind : Nat))).setCell ⟨w3.heap.size, 1, none⟩ (.string ⟨f.text.toArray⟩)).setCell ⟨w3.heap.size, 2, none⟩ (.int .i64 (f.n : Nat))).setCell ⟨w3.heap.size, 3, none⟩ (.bool false)).setCell ⟨w3.heap.size, 4, none⟩ (.int .i64 0)).setCell ⟨w3.heap.size, 5, none⟩ (.int .i64 0)).setCell ⟨w3.heap.size, 6, none⟩ (.int .i64 0)).alloc (.cells #[.int .i64 (f.kind : Nat), .string ⟨f.text.toArray⟩, .int .i64 (f.n : Nat), .bool false, .int .i64 0, .int .i64 0, .int .i64 0, .int .i64 (f.used : Nat), .int .i64 0] 54)).drew := ⟨_, rfl⟩
            have SW := Lib.hid (show AS w s j u6 acc W6 by rw [hW6]; exact AS.drew (AS.below (((((((S5.out.setC h9n HNE.out).setC h9n HNE.out).setC h9n HNE.out).setC h9n HNE.out).setC h9n HNE.out).setC h9n HNE.out).setC h9n HNE.out) ((Below.refl _ _).alloc (Nat.le_refl _) _)))
            have BW := Lib.hid (show W6.heap[w3.heap.size]? = some (.cells #[.int .i64 (f.kind : Nat), .string ⟨f.text.toArray⟩, .int .i64 (f.n : Nat), .bool false, .int .i64 0, .int .i64 0, .int .i64 0] 38) by
              rw [hW6]
              show ((((((((w5.setCell ⟨w3.heap.size, 0, none⟩ (.int .i64 (f.kind : Nat))).setCell ⟨w3.heap.size, 1, none⟩ (.string ⟨f.text.toArray⟩)).setCell ⟨w3.heap.size, 2, none⟩ (.int .i64 (f.n : Nat))).setCell ⟨w3.heap.size, 3, none⟩ (.bool false)).setCell ⟨w3.heap.size, 4, none⟩ (.int .i64 0)).setCell ⟨w3.heap.size, 5, none⟩ (.int .i64 0)).setCell ⟨w3.heap.size, 6, none⟩ (.int .i64 0)).alloc (.cells #[.int .i64 (f.kind : Nat), .string ⟨f.text.toArray⟩, .int .i64 (f.n : Nat), .bool false, .int .i64 0, .int .i64 0, .int .i64 0, .int .i64 (f.used : Nat), .int .i64 0] 54)).heap[w3.heap.size]? = _
              rw [((Below.refl _ (((((((w5.setCell ⟨w3.heap.size, 0, none⟩ (.int .i64 (f.kind : Nat))).setCell ⟨w3.heap.size, 1, none⟩ (.string ⟨f.text.toArray⟩)).setCell ⟨w3.heap.size, 2, none⟩ (.int .i64 (f.n : Nat))).setCell ⟨w3.heap.size, 3, none⟩ (.bool false)).setCell ⟨w3.heap.size, 4, none⟩ (.int .i64 0)).setCell ⟨w3.heap.size, 5, none⟩ (.int .i64 0)).setCell ⟨w3.heap.size, 6, none⟩ (.int .i64 0))).alloc (Nat.le_refl _) _).block w3.heap.size (by simp [World.setCell]; omega), (heap_set (heap_set (heap_set (heap_set (heap_set (heap_set (heap_set Z5.out.blk _) _) _) _) _) _) _)]
              simp)
            rw [← hW6]
            clear hW6 p00 p01 p02 g0 g1 g2 g3 g4 g5 g6 gf hp7
            have p00 := SW.out.pos.c0
            have p01 := SW.out.pos.c1
            have p02 := SW.out.pos.c2
            have hp7 := SW.out.pos.lt
            have hb6 := BW.out
            have g0 : W6.cell? ⟨w3.heap.size, 0, none⟩ = some (.int .i64 (f.kind : Nat)) := by simp [World.cell?, hb6]
            have g1 : W6.cell? ⟨w3.heap.size, 1, none⟩ = some (.string ⟨f.text.toArray⟩) := by simp [World.cell?, hb6]
            have g2 : W6.cell? ⟨w3.heap.size, 2, none⟩ = some (.int .i64 (f.n : Nat)) := by simp [World.cell?, hb6]
            have g3 : W6.cell? ⟨w3.heap.size, 3, none⟩ = some (.bool false) := by simp [World.cell?, hb6]
            have g4 : W6.cell? ⟨w3.heap.size, 4, none⟩ = some (.int .i64 0) := by simp [World.cell?, hb6]
            have g5 : W6.cell? ⟨w3.heap.size, 5, none⟩ = some (.int .i64 0) := by simp [World.cell?, hb6]
            have g6 : W6.cell? ⟨w3.heap.size, 6, none⟩ = some (.int .i64 0) := by simp [World.cell?, hb6]
            have gf : ∀ o, W6.frozen? ⟨w3.heap.size, o, none⟩ = false := fun o => by simp [World.frozen?, hb6]
            have h9w : w3.heap.size < W6.heap.size := heap_lt hb6
            have S8 := Lib.hid (show AS w s j u6 acc ((((W6.setCell ⟨w3.heap.size, 4, none⟩ (.int .i64 (j : Nat))).setCell ⟨w3.heap.size, 5, none⟩ (.int .i64 (lineOf s j : Nat))).setCell ⟨w3.heap.size, 6, none⟩ (.int .i64 (colOf s j : Nat))).setCell ⟨w3.heap.size, 3, none⟩ (.bool sm)) from ((((SW.out.setC h9n HNE.out).setC h9n HNE.out).setC h9n HNE.out).setC h9n HNE.out))
            have HB8 := Lib.hid (show ((((W6.setCell ⟨w3.heap.size, 4, none⟩ (.int .i64 (j : Nat))).setCell ⟨w3.heap.size, 5, none⟩ (.int .i64 (lineOf s j : Nat))).setCell ⟨w3.heap.size, 6, none⟩ (.int .i64 (colOf s j : Nat))).setCell ⟨w3.heap.size, 3, none⟩ (.bool sm)).heap[w3.heap.size]? = some (.cells #[.int .i64 (f.kind : Nat), .string ⟨f.text.toArray⟩, .int .i64 (f.n : Nat), .bool sm, .int .i64 (j : Nat), .int .i64 (lineOf s j : Nat), .int .i64 (colOf s j : Nat)] 38) by rw [(heap_set (heap_set (heap_set (heap_set BW.out _) _) _) _)]; simp)
            have hbw : w.heap.size + 2 ≤ ((((W6.setCell ⟨w3.heap.size, 4, none⟩ (.int .i64 (j : Nat))).setCell ⟨w3.heap.size, 5, none⟩ (.int .i64 (lineOf s j : Nat))).setCell ⟨w3.heap.size, 6, none⟩ (.int .i64 (colOf s j : Nat))).setCell ⟨w3.heap.size, 3, none⟩ (.bool sm)).heap.size := by have := SW.out.pos.lt; simp [World.setCell]; omega
            have h9w8 : w3.heap.size < ((((W6.setCell ⟨w3.heap.size, 4, none⟩ (.int .i64 (j : Nat))).setCell ⟨w3.heap.size, 5, none⟩ (.int .i64 (lineOf s j : Nat))).setCell ⟨w3.heap.size, 6, none⟩ (.int .i64 (colOf s j : Nat))).setCell ⟨w3.heap.size, 3, none⟩ (.bool sm)).heap.size := heap_lt HB8.out
            clear hb6 Z5 S5 S6
            have tok1 : True := trivial
            go_wp2_with (have _t := tok1; at_builtin; (refine wp_appQ rfl (.tmp 66) (.tmp 68) rfl (⟨f.kind, f.text, f.n, sm, j, lineOf s j, colOf s j⟩ : Tk) #[.int .i64 (f.kind : Nat), .string ⟨f.text.toArray⟩, .int .i64 (f.n : Nat), .bool sm, .int .i64 (j : Nat), .int .i64 (lineOf s j : Nat), .int .i64 (colOf s j : Nat)] rfl S8.out.own hbw rfl rfl (by simp [World.setCell]) hal2 ?_; intro v7 w7 o7 g7); have S7 := Lib.hid (AS.app (AS.below S8.out ((Below.refl _ _).alloc (Nat.le_refl _) _)) g7 o7); have hb9 : w7.heap[w3.heap.size]? = some (.cells #[.int .i64 (f.kind : Nat), .string ⟨f.text.toArray⟩, .int .i64 (f.n : Nat), .bool sm, .int .i64 (j : Nat), .int .i64 (lineOf s j : Nat), .int .i64 (colOf s j : Nat)] 38) := (g7.block w3.heap.size (by have := h9w8; simp only [World.size_alloc]; omega) (fun e => HNE.out e.symm)).trans ((((Below.refl _ _).alloc (Nat.le_refl _) _).block w3.heap.size h9w8).trans HB8.out); have y7 : w7.cell? ⟨w3.heap.size, 0, none⟩ = some (.int .i64 (f.kind : Nat)) := (by simp [World.cell?, hb9]); clear o7 g7 tok1 hb9)
            have hjus : j + f.used ≤ s.size := hu.2.1
            have hus1 : 1 ≤ f.used := hu.1
            clear hu
            go_loopw [12] (fun x wi => ∃ i q : Nat, i ≤ f.used ∧ q = j + i ∧ x = .int .i64 i ∧ AS w s q v7 (acc ++ [(⟨f.kind, f.text, f.n, sm, j, lineOf s j, colOf s j⟩ : Tk)]) wi) (fun x _ => f.used - (intOf x).toNat)
            case atStart => exact ⟨0, j, Nat.zero_le _, rfl, rfl, S7.out⟩
            case round =>
              obtain ⟨i, q, hi, hq, rfl, hsi⟩ := hrel
              have SI := Lib.hid hsi
              have HQ := Lib.hid hq
              clear hsi
              by_cases hlt3 : i < f.used
              · have hqs : q < s.size := by omega
                have hbq := bt_eq s q hqs
                clear hq
                have p0 := SI.out.pos.c0
                have p1 := SI.out.pos.c1
                have p2 := SI.out.pos.c2
                have pf := SI.out.pos.fz
                have hlt7 := SI.out.pos.lt
                go_wp2_with fail
                go_still_tail 5, (by kernel_rfl)
                have SD := Lib.hid SI.out.drew
                clear p0 p1 p2 pf
                go_wp2_with fail
                refine (step_any s q _ hqs hsm).mono ?_
                rintro e wz ⟨rfl, bz⟩
                have SZ := Lib.hid (SD.out.below bz)
                have p0 := SZ.out.pos.c0
                have p1 := SZ.out.pos.c1
                have p2 := SZ.out.pos.c2
                have pf := SZ.out.pos.fz
                clear bz SD
                go_wp2_with fail
                go_roundw
                case rel => exact ⟨i + 1, q + 1, by omega, by rw [HQ.out]; omega, by go_num, SZ.out.move (q + 1)⟩
                case measure => simp [intOf]; omega
              · have hie : i = f.used := by omega
                have HIE := Lib.hid hie
                have p0 := SI.out.pos.c0
                have p1 := SI.out.pos.c1
                have hp9 := SI.out.pos.lt
                have hqe : q = j + f.used := by omega
                have HQE := Lib.hid hqe
                have hlx2 := HLX.out
                rw [← hqe] at hlx2
                have HLX2 := Lib.hid hlx2
                have hb1 : s.size - q < m := by omega
                have hb2 : acc.length + 1 ≤ q := by omega
                have hb3 : q ≤ s.size := by omega
                have hb4 : k < q := by omega
                clear hq hie hqe hlx2
                go_wp2_with fail
                go_roundw
                case rel => exact ⟨q, m, lineOf s q, acc ++ [(⟨f.kind, f.text, f.n, sm, j, lineOf s j, colOf s j⟩ : Tk)], rfl, SI.out, hb1, HLX2.out, by simp; omega, hb3⟩
                case measure => rw [leftP_at SI.out.pos, leftP_at S.out.pos]; omega
          · have d1 : ((f.err : Int) != 0) = true := by simp; omega
            obtain rfl : R = ⟨f.err, j, []⟩ := by rw [← LX.out, lexN_err HF.out he, HJ.out]
            obtain ⟨z0, z1, z2, z3, zf⟩ := S5.out.dzf
            have hzl : w.heap.size < w5.heap.size := heap_lt S5.out.dz
            clear HFO HFst LX
            go_wp2_with fail
            go_region
            go_wp2_with fail
            exact bodyPost_ret (v := .tuple #[.slice none 0 0, diagV s ⟨f.err, j, []⟩]) (by simp [results, Tryd.results14, go_sem, diagV, z0, z1, z2, z3, hzl]) rfl ⟨_, rfl, OwnT.nil _ _, below_drew (((((S5.out.bel.setCell (Nat.le_refl _) _).setCell (Nat.le_refl _) _).setCell (Nat.le_refl _) _).setCell (Nat.le_refl _) _).alloc (by have := S5.out.bel.size; simp [World.setCell]; omega) _)⟩
      · obtain rfl : j = s.size := by omega
        have HJ := Lib.hid (BE.out.trans (blEnd_out s s.size (fun h => by omega)))
        generalize hjj : s.size = j at HJ SJ hkj hj
        have p00 := SJ.out.pos.c0
        have p01 := SJ.out.pos.c1
        have p02 := SJ.out.pos.c2
        have hp7 := SJ.out.pos.lt
        generalize hsm2 : decide ((lineOf s j : Int) = last) = sm
        have d2 : (last == (lineOf s j : Int)) = sm := by rw [← hsm2, Bool.beq_eq_decide_eq, decide_eq_decide]; exact ⟨fun h => h.symm, fun h => h.symm⟩
        obtain rfl : R = ⟨0, 0, acc ++ [(⟨0, [], 0, sm, j, lineOf s j, colOf s j⟩ : Tk)]⟩ := by
          have hf : fdAt s (blEnd s k) = bad 0 := by rw [HJ.out]; exact fd_end s j (by omega)
          rw [← LX.out, lexN_end hf rfl rfl, HJ.out, ← hsm2]; rfl
        have hal2 : acc.length ≤ 100000 := by omega
        have S9 := Lib.hid (SJ.out.below ((Below.refl _ _).alloc (Nat.le_refl _) (.cells #[.int .i64 0, .string ⟨#[]⟩, .int .i64 0, .bool sm, .int .i64 (j : Nat), .int .i64 (lineOf s j : Nat), .int .i64 (colOf s j : Nat)] 38)))
        have HNE := Lib.hid (show u6.ownBlock ≠ some wr.heap.size from fun e => by have := (SJ.out.own.lt _ e).2; omega)
        have hbw : w.heap.size + 2 ≤ (wr.alloc (.cells #[.int .i64 0, .string ⟨#[]⟩, .int .i64 0, .bool sm, .int .i64 (j : Nat), .int .i64 (lineOf s j : Nat), .int .i64 (colOf s j : Nat)] 38)).heap.size := by have := SJ.out.pos.lt; simp; omega
        have zz : decide ((j : Int) < (j : Int)) = false := by simp
        clear LX HJ hsm2
        have tok1 : True := trivial
        go_wp2_with (have _t := tok1; at_builtin; (refine wp_appQ rfl (.tmp 66) (.tmp 68) rfl (⟨0, [], 0, sm, j, lineOf s j, colOf s j⟩ : Tk) #[.int .i64 0, .string ⟨#[]⟩, .int .i64 0, .bool sm, .int .i64 (j : Nat), .int .i64 (lineOf s j : Nat), .int .i64 (colOf s j : Nat)] rfl (AS.own (w := w) (s := s) (k := j) S9.out) hbw rfl rfl (by simp) hal2 ?_; intro v7 w7 o7 g7); (have S7 := Lib.hid (AS.app (AS.below (AS.mkk S9.out) ((Below.refl _ _).alloc (Nat.le_refl _) _)) g7 o7)); obtain ⟨z0, z1, z2, z3, zf⟩ := S7.out.dzf; (have y7 : w7.cell? ⟨wr.heap.size, 0, none⟩ = some (.int .i64 0) := (by rw [cell_eq (g7.block wr.heap.size (by simp; omega) (fun e => HNE.out e.symm))]; simp [go_sem])); clear o7 g7 tok1)
        exact bodyPost_ret (v := .tuple #[v7, diagV s ⟨0, 0, acc ++ [(⟨0, [], 0, sm, j, lineOf s j, colOf s j⟩ : Tk)]⟩]) (by simp [results, Tryd.results14, go_sem, diagV, z0, z1, z2, z3, line_zero, col_zero]) rfl ⟨v7, rfl, (OwnT.kept S7.out.own fun b hb => by have hb1 := (S7.out.own.lt b hb).1; rw [Below.heap_setCell _ _ _ _ (by simp; omega), Below.heap_setCell _ _ _ _ (by simp; omega), Below.heap_setCell _ _ _ _ (by simp; omega), Below.heap_setCell _ _ _ _ (by simp; omega)]).mono (by omega), (((S7.out.bel.setCell (Nat.le_refl _) _).setCell (Nat.le_refl _) _).setCell (Nat.le_refl _) _).setCell (Nat.le_refl _) _⟩
end Go.Proofs.YtjdmaindoohmkaaDoor.P
