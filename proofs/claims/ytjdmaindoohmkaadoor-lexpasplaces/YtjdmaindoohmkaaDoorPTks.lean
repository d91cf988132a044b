/-
  Tokens and lexpas.All, walked.
-/
import Derived.Test.YtjdmaindoohmkaaDoorPTk
namespace Go.Proofs.YtjdmaindoohmkaaDoor.P
open Go.RowKit Go.Sort

theorem lexN_err {s : ByteArray} {m k : Nat} {last : Int} {acc : List Tk} {f : Fd} (hf : fdAt s (blEnd s k) = f) (h : f.err ≠ 0) : lexN s (m + 1) k last acc = ⟨f.err, blEnd s k, []⟩ := by rw [lexN_succ, hf, if_pos h]
theorem lexN_end {s : ByteArray} {m k : Nat} {last : Int} {acc : List Tk} {f : Fd} (hf : fdAt s (blEnd s k) = f) (h : f.err = 0) (h0 : f.kind = 0) : lexN s (m + 1) k last acc = ⟨0, 0, acc ++ [mkT s f (blEnd s k) last]⟩ := by rw [lexN_succ, hf, if_neg (by omega), if_pos h0]
theorem lexN_tok {s : ByteArray} {m k : Nat} {last : Int} {acc : List Tk} {f : Fd} (hf : fdAt s (blEnd s k) = f) (h : f.err = 0) (h0 : f.kind ≠ 0) : lexN s (m + 1) k last acc = lexN s m (blEnd s k + f.used) (lineOf s (blEnd s k + f.used)) (acc ++ [mkT s f (blEnd s k) last]) := by rw [lexN_succ, hf, if_neg (by omega), if_neg h0]
theorem _root_.Go.Proofs.YtjdmaindoohmkaaDoor.Only.drew {b : Nat} {a w : World} (h : Only b a w) : Only b a w.drew := ⟨h.os, h.tape, h.output, h.size, h.block⟩
theorem setB_eq : (ByteArray.mk #[9, 10, 13, 32]) = setB := rfl
set_option maxHeartbeats 1000000 in
theorem tokens_long (p c : Nat) (s : ByteArray) (fv : Value) (w : World) (h : ScAt w p c s 0) (hl : 65536 < s.size) :
    Calls Tryd.prog 23 #[.pointer (some ⟨p, 0, none⟩), fv] w (ToksPost c s ⟨3, 0, []⟩ w) := by
  have hpl := h.lt
  have h2 := h.c2
  have d : decide ((65536 : Int) < (s.size : Int)) = true := by simp; omega
  clear h
  go_enter Tryd.func23, Tryd.ntmps23
  go_wp2_with fail
  exact bodyPost_ret (v := .tuple #[.slice none 0 0, diagV s ⟨3, 0, []⟩]) (by simp [results, Tryd.results23, go_sem, diagV, line_zero, col_zero]) rfl ⟨_, rfl, OwnT.nil _ _, (Only.refl c w).alloc _⟩
set_option maxRecDepth 10000 in
set_option maxHeartbeats 4000000 in
theorem tokens_any (p c : Nat) (s : ByteArray) (w : World) (h : ScAt w p c s 0) (hl : s.size ≤ 65536) :
    Calls Tryd.prog 23 #[.pointer (some ⟨p, 0, none⟩), .func (.func 24) #[.agg #[.pointer (some ⟨p, 0, none⟩)]] #[]] w (ToksPost c s (lexN s (s.size + 1) 0 (-1) []) w) := by
  have hpl := h.lt
  have hcl := h.cur.lt
  have h2 := h.c2
  have hsm : s.size ≤ maxLen := by unfold maxLen; omega
  have d : decide ((65536 : Int) < (s.size : Int)) = false := by simp; omega
  have ST := Lib.hid (show LS w p c s 0 (.slice none 0 0) [] (w.alloc (.cells #[.int .i64 0, .int .i64 0, .int .i64 0, .int .i64 0] 28)) from ⟨h.alloc _, OwnT.nil _ _, heap_new _ _, (Only.refl c w).alloc _, hpl, hcl⟩)
  clear h
  generalize hR : lexN s (s.size + 1) 0 (-1) [] = R
  have HR := Lib.hid hR
  clear hR
  have HW := Lib.hid fun w1 k hc => while_tw c k s setB isBl w1 hc hsm (by decide) setB_is
  go_enter Tryd.func23, Tryd.ntmps23
  go_wp2_with fail
  generalize w.alloc (.cells #[.int .i64 0, .int .i64 0, .int .i64 0, .int .i64 0] 28) = w0 at ST
  clear h2 d
  go_loopw [6, 7] (fun v l wr => ∃ (k m : Nat) (last : Int) (acc : List Tk), l = .int .i64 last ∧ LS w p c s k v acc wr ∧ s.size - k < m ∧ lexN s m k last acc = R ∧ acc.length ≤ k) (fun _ _ wr => leftOf s c wr)
  case atStart => exact ⟨0, s.size + 1, -1, [], rfl, ST.out, by omega, HR.out, by simp⟩
  case round =>
    obtain ⟨k, m, last, acc, rfl, hst, hm, hlx, hal⟩ := hrel
    have S := Lib.hid hst
    have LX := Lib.hid hlx
    have h0 := hst.sc.c0
    have hk := hst.sc.cur.le
    clear hst hlx ST HR
    obtain ⟨m, rfl⟩ : ∃ m', m = m' + 1 := ⟨m - 1, by omega⟩
    go_wp2_with fail
    refine (HW.out _ k S.out.sc.cur).mono ?_
    rintro e w1 ⟨rfl, c1, o1⟩
    have c1 : CurAt w1 c s (blEnd s k) := c1
    have hbl := blEnd_bd s k hk
    generalize hj : blEnd s k = j at c1 hbl
    have HJ := Lib.hid hj
    have S1 := Lib.hid (S.out.next o1 c1)
    have h01 := S1.out.sc.c0
    clear c1 o1 hj h0
    go_wp2_with fail
    refine (pos_any c j s _ S1.out.sc.cur).mono ?_
    rintro e w2 ⟨rfl, b2⟩
    have S2 := Lib.hid (S1.out.below b2)
    clear b2 S1 h01
    go_wp2_with fail
    have hp3 := heap_new w2 (.cells #[.int .i64 (j : Nat), .int .i64 (lineOf s j : Nat), .int .i64 (colOf s j : Nat)] 26)
    have S3 := Lib.hid (S2.out.below ((Below.refl _ _).alloc (Nat.le_refl _) (.cells #[.int .i64 (j : Nat), .int .i64 (lineOf s j : Nat), .int .i64 (colOf s j : Nat)] 26)))
    have hcw : c < w2.heap.size := S2.out.sc.cur.lt
    clear S2
    generalize w2.alloc (.cells #[.int .i64 (j : Nat), .int .i64 (lineOf s j : Nat), .int .i64 (colOf s j : Nat)] 26) = w3 at hp3 S3 ⊢
    have HP3 := Lib.hid hp3
    clear hp3
    generalize hf : fdAt s j = f
    have hfu := fd_use s j
    have hfe := fd_end s j
    refine (token_tok p c j s _ S3.out.sc (by omega)).mono ?_
    rw [hf] at hfu hfe ⊢
    have HFU := Lib.hid hfu
    have HFE := Lib.hid hfe
    clear hfu hfe
    have HF := Lib.hid (show fdAt s (blEnd s k) = f by rw [HJ.out]; exact hf)
    have HJ2 := Lib.hid hf
    clear hf
    unfold TokPost tokV
    rintro e w4 ⟨rfl, o4, c4⟩
    have hp4 : w4.heap[w2.heap.size]? = some (.cells #[.int .i64 (j : Nat), .int .i64 (lineOf s j : Nat), .int .i64 (colOf s j : Nat)] 26) := (o4.block _ (by omega) (heap_lt HP3.out)).trans HP3.out
    have q0 : w4.cell? ⟨w2.heap.size, 0, none⟩ = some (.int .i64 (j : Nat)) := by simp [World.cell?, hp4]
    have q1 : w4.cell? ⟨w2.heap.size, 1, none⟩ = some (.int .i64 (lineOf s j : Nat)) := by simp [World.cell?, hp4]
    have q2 : w4.cell? ⟨w2.heap.size, 2, none⟩ = some (.int .i64 (colOf s j : Nat)) := by simp [World.cell?, hp4]
    have hq : w2.heap.size < w4.heap.size := heap_lt hp4
    clear hp4 HP3
    by_cases he : f.err = 0
    · have d1 : ((f.err : Int) != 0) = false := by rw [he]; rfl
      have S4 := Lib.hid (S3.out.next o4 (c4 he))
      clear o4 c4 S3
      generalize hkk : j + f.used = kk at S4
      have HKK := Lib.hid hkk
      clear hkk
      have gl := field_line (kk : Int) (lineOf s kk : Int) (colOf s kk : Int)
      generalize hsm : decide ((lineOf s j : Int) = last) = sm
      have d2 : ((lineOf s j : Int) == last) = sm := by rw [← hsm]; exact Bool.beq_eq_decide_eq _ _
      have HSM := Lib.hid hsm
      clear hsm
      have h04 := S4.out.sc.c0
      have hp4l : p < w4.heap.size := S4.out.sc.lt
      go_wp2_with fail
      have hb5 := heap_new w4 (.cells #[.int .i64 (f.kind : Nat), .string ⟨f.text.toArray⟩, .int .i64 (f.n : Nat), .bool sm, .int .i64 (j : Nat), .int .i64 (lineOf s j : Nat), .int .i64 (colOf s j : Nat)] 38)
      have S5 := Lib.hid (S4.out.below ((Below.refl _ _).alloc (Nat.le_refl _) (.cells #[.int .i64 (f.kind : Nat), .string ⟨f.text.toArray⟩, .int .i64 (f.n : Nat), .bool sm, .int .i64 (j : Nat), .int .i64 (lineOf s j : Nat), .int .i64 (colOf s j : Nat)] 38)))
      refine (pos_any c kk s _ S5.out.sc.cur).mono ?_
      generalize w4.alloc (.cells #[.int .i64 (f.kind : Nat), .string ⟨f.text.toArray⟩, .int .i64 (f.n : Nat), .bool sm, .int .i64 (j : Nat), .int .i64 (lineOf s j : Nat), .int .i64 (colOf s j : Nat)] 38) = w5 at hb5 S5
      rintro e w6 ⟨rfl, b6⟩
      have S6 := Lib.hid (S5.out.below b6)
      have hb6 : w6.heap[w4.heap.size]? = some (.cells #[.int .i64 (f.kind : Nat), .string ⟨f.text.toArray⟩, .int .i64 (f.n : Nat), .bool sm, .int .i64 (j : Nat), .int .i64 (lineOf s j : Nat), .int .i64 (colOf s j : Nat)] 38) := (b6.block _ (heap_lt hb5)).trans hb5
      have y0 : w6.cell? ⟨w4.heap.size, 0, none⟩ = some (.int .i64 (f.kind : Nat)) := by simp [World.cell?, hb6]
      have y1 : w6.cell? ⟨w4.heap.size, 1, none⟩ = some (.string ⟨f.text.toArray⟩) := by simp [World.cell?, hb6]
      have y2 : w6.cell? ⟨w4.heap.size, 2, none⟩ = some (.int .i64 (f.n : Nat)) := by simp [World.cell?, hb6]
      have y3 : w6.cell? ⟨w4.heap.size, 3, none⟩ = some (.bool sm) := by simp [World.cell?, hb6]
      have y4 : w6.cell? ⟨w4.heap.size, 4, none⟩ = some (.int .i64 (j : Nat)) := by simp [World.cell?, hb6]
      have y5 : w6.cell? ⟨w4.heap.size, 5, none⟩ = some (.int .i64 (lineOf s j : Nat)) := by simp [World.cell?, hb6]
      have y6 : w6.cell? ⟨w4.heap.size, 6, none⟩ = some (.int .i64 (colOf s j : Nat)) := by simp [World.cell?, hb6]
      have hl6 : w4.heap.size < w6.heap.size := heap_lt hb6
      have HB6 := Lib.hid hb6
      have hown4 := Lib.hid fun k hk => (S4.out.own.lt k hk).2
      clear hb5 S5 b6 hb6 S4 h04 q0 q1 q2
      have hlen : acc.length ≤ 100000 := by omega
      have hsz6 : w.heap.size + 1 ≤ w6.heap.size := by have := heap_lt S6.out.dz; omega
      have HMK := Lib.hid (show mkT s f j last = (⟨f.kind, f.text, f.n, sm, j, lineOf s j, colOf s j⟩ : Tk) by unfold mkT; rw [HSM.out])
      by_cases hkd : f.kind = 0
      · have d3 : ((f.kind : Int) == 0) = true := by rw [hkd]; rfl
        obtain rfl : R = ⟨0, 0, acc ++ [(⟨f.kind, f.text, f.n, sm, j, lineOf s j, colOf s j⟩ : Tk)]⟩ := by rw [← LX.out, lexN_end HF.out he hkd, HJ.out, HMK.out]
        have HKD := Lib.hid hkd
        clear LX hkd
        have tok1 : True := trivial
        go_wp2_with (have _t := tok1; at_builtin; refine wp_appT rfl (.tmp 52) (.tmp 54) rfl (⟨f.kind, f.text, f.n, sm, j, lineOf s j, colOf s j⟩ : Tk) #[.int .i64 (f.kind : Nat), .string ⟨f.text.toArray⟩, .int .i64 (f.n : Nat), .bool sm, .int .i64 (j : Nat), .int .i64 (lineOf s j : Nat), .int .i64 (colOf s j : Nat)] rfl S6.out.own hsz6 rfl rfl hlen ?_; intro v7 w7 o7 g7; have S7 := Lib.hid ((S6.out.below ((Below.refl _ _).alloc (Nat.le_refl _) _)).app g7 o7); have HB7 := Lib.hid (show w7.heap[w4.heap.size]? = some (.cells #[.int .i64 (f.kind : Nat), .string ⟨f.text.toArray⟩, .int .i64 (f.n : Nat), .bool sm, .int .i64 (j : Nat), .int .i64 (lineOf s j : Nat), .int .i64 (colOf s j : Nat)] 38) by (rw [g7.block _ (by simp; omega) (fun e => by have := hown4.out _ e.symm; omega), ((Below.refl _ w6).alloc (Nat.le_refl _) _).block _ hl6]; exact HB6.out)); have y7 : w7.cell? ⟨w4.heap.size, 0, none⟩ = some (.int .i64 (f.kind : Nat)) := (by have := HB7.out; simp [World.cell?, this]); obtain ⟨z0, z1, z2, z3, zf⟩ := S7.out.dzf; clear o7 g7 y0 y1 y2 y3 y4 y5 y6 tok1)
        refine bodyPost_ret (v := .tuple #[v7, diagV s ⟨0, 0, acc ++ [(⟨f.kind, f.text, f.n, sm, j, lineOf s j, colOf s j⟩ : Tk)]⟩]) (by simp [results, Tryd.results23, go_sem, diagV, z0, z1, z2, z3, line_zero, col_zero]) rfl ⟨v7, rfl, ?_, (((S7.out.only.new (Nat.le_refl _) _).new (Nat.le_refl _) _).new (Nat.le_refl _) _).new (Nat.le_refl _) _⟩
        refine OwnT.kept (S7.out.own.mono (Nat.le_succ _)) fun b hb => ?_
        have hb1 := (S7.out.own.lt b hb).1
        rw [Below.heap_setCell _ _ _ _ (by simp; omega), Below.heap_setCell _ _ _ _ (by simp; omega), Below.heap_setCell _ _ _ _ (by simp; omega), Below.heap_setCell _ _ _ _ (by simp; omega)]
      · have d3 : ((f.kind : Int) == 0) = false := by simp; omega
        have hjs : j < s.size := by
          rcases Nat.lt_or_ge j s.size with g | g
          · exact g
          · have := HFE.out (by omega); rw [this] at hkd; exact absurd rfl hkd
        have hus := (HFU.out hjs he).1
        have hke := HKK.out
        have hlx2 : lexN s m kk (lineOf s kk) (acc ++ [(⟨f.kind, f.text, f.n, sm, j, lineOf s j, colOf s j⟩ : Tk)]) = R := by rw [← LX.out, lexN_tok HF.out he hkd, HJ.out, HKK.out, HMK.out]
        have LX2 := Lib.hid hlx2
        have hm2 : s.size - kk < m := by omega
        have hjk : acc.length + 1 ≤ kk := by omega
        have hkk2 : k < kk := by omega
        clear hlx2 hke
        have tok1 : True := trivial
        go_wp2_with (have _t := tok1; at_builtin; refine wp_appT rfl (.tmp 52) (.tmp 54) rfl (⟨f.kind, f.text, f.n, sm, j, lineOf s j, colOf s j⟩ : Tk) #[.int .i64 (f.kind : Nat), .string ⟨f.text.toArray⟩, .int .i64 (f.n : Nat), .bool sm, .int .i64 (j : Nat), .int .i64 (lineOf s j : Nat), .int .i64 (colOf s j : Nat)] rfl S6.out.own hsz6 rfl rfl hlen ?_; intro v7 w7 o7 g7; have S7 := Lib.hid ((S6.out.below ((Below.refl _ _).alloc (Nat.le_refl _) _)).app g7 o7); have HB7 := Lib.hid (show w7.heap[w4.heap.size]? = some (.cells #[.int .i64 (f.kind : Nat), .string ⟨f.text.toArray⟩, .int .i64 (f.n : Nat), .bool sm, .int .i64 (j : Nat), .int .i64 (lineOf s j : Nat), .int .i64 (colOf s j : Nat)] 38) by (rw [g7.block _ (by simp; omega) (fun e => by have := hown4.out _ e.symm; omega), ((Below.refl _ w6).alloc (Nat.le_refl _) _).block _ hl6]; exact HB6.out)); have y7 : w7.cell? ⟨w4.heap.size, 0, none⟩ = some (.int .i64 (f.kind : Nat)) := (by have := HB7.out; simp [World.cell?, this]); obtain ⟨z0, z1, z2, z3, zf⟩ := S7.out.dzf; clear o7 g7 y0 y1 y2 y3 y4 y5 y6 tok1)
        go_roundw
        case rel => exact ⟨kk, m, lineOf s kk, acc ++ [(⟨f.kind, f.text, f.n, sm, j, lineOf s j, colOf s j⟩ : Tk)], rfl, S7.out, hm2, LX2.out, by simp; omega⟩
        case measure => rw [leftOf_at S7.out.sc.cur, leftOf_at S.out.sc.cur]; have := S7.out.sc.cur.le; omega
    · have d1 : ((f.err : Int) != 0) = true := by simp; omega
      have O4 := Lib.hid (S3.out.only.trans o4)
      have hdz : w4.heap[w.heap.size]? = some (.cells #[.int .i64 0, .int .i64 0, .int .i64 0, .int .i64 0] 28) := (o4.block _ (by omega) (heap_lt S3.out.dz)).trans S3.out.dz
      have z0 : w4.cell? ⟨w.heap.size, 0, none⟩ = some (.int .i64 0) := by simp [World.cell?, hdz]
      have z1 : w4.cell? ⟨w.heap.size, 1, none⟩ = some (.int .i64 0) := by simp [World.cell?, hdz]
      have z2 : w4.cell? ⟨w.heap.size, 2, none⟩ = some (.int .i64 0) := by simp [World.cell?, hdz]
      have z3 : w4.cell? ⟨w.heap.size, 3, none⟩ = some (.int .i64 0) := by simp [World.cell?, hdz]
      have zf : ∀ o, w4.frozen? ⟨w.heap.size, o, none⟩ = false := fun o => by simp [World.frozen?, hdz]
      have hzl : w.heap.size < w4.heap.size := heap_lt hdz
      obtain rfl : R = ⟨f.err, j, []⟩ := by rw [← LX.out, lexN_err HF.out he, HJ.out]
      clear o4 c4 S3 hdz LX
      go_wp2_with fail
      go_region
      go_wp2_with fail
      exact bodyPost_ret (v := .tuple #[.slice none 0 0, diagV s ⟨f.err, j, []⟩]) (by simp [results, Tryd.results23, go_sem, diagV, z0, z1, z2, z3, hzl]) rfl ⟨_, rfl, OwnT.nil _ _, (((((O4.out.new (Nat.le_refl _) _).new (Nat.le_refl _) _).new (Nat.le_refl _) _).new (Nat.le_refl _) _).alloc _).drew⟩
/-- What lexpas.All leaves. -/
def LexPost (s : ByteArray) (w : World) (e : Ending) (w' : World) : Prop := ∃ v, e = .returned (.tuple #[v, diagV s (lexAll s)]) ∧ OwnT w.heap.size w' v (lexAll s).toks ∧ Below w.heap.size w w'
theorem toks_any (p c : Nat) (s : ByteArray) (w : World) (h : ScAt w p c s 0) :
    Calls Tryd.prog 23 #[.pointer (some ⟨p, 0, none⟩), .func (.func 24) #[.agg #[.pointer (some ⟨p, 0, none⟩)]] #[]] w (ToksPost c s (lexAll s) w) := by
  unfold lexAll
  split
  · rename_i hl; exact tokens_long p c s _ w h hl
  · rename_i hl; exact tokens_any p c s w h (by omega)
set_option maxHeartbeats 1000000 in
theorem lex_any (s : ByteArray) (w : World) : Calls Tryd.prog 13 #[.string s] w (LexPost s w) := by
  unfold LexPost diagV
  generalize hR : lexAll s = R
  have HR := Lib.hid hR
  clear hR
  go_enter Tryd.func13, Tryd.ntmps13
  go_wp2_with fail
  have hd0 := heap_new w (.cells #[.int .i64 0, .int .i64 0, .int .i64 0, .int .i64 0] 28)
  have B0 := Lib.hid (show Below w.heap.size w (w.alloc (.cells #[.int .i64 0, .int .i64 0, .int .i64 0, .int .i64 0] 28)) from (Below.refl _ _).alloc (Nat.le_refl _) _)
  generalize w.alloc (.cells #[.int .i64 0, .int .i64 0, .int .i64 0, .int .i64 0] 28) = w0 at hd0 B0 ⊢
  have hlt0 := heap_lt hd0
  have HD0 := Lib.hid hd0
  clear hd0
  refine (newSc s w0).mono ?_
  rintro e w1 ⟨rfl, c1, b1⟩
  have hd1 : w1.heap[w.heap.size]? = some (.cells #[.int .i64 0, .int .i64 0, .int .i64 0, .int .i64 0] 28) := (b1.block _ hlt0).trans HD0.out
  have C1 := Lib.hid c1
  have B1 := Lib.hid (B0.out.trans (b1.mono B0.out.size))
  have HD1 := Lib.hid hd1
  have hz0 := B0.out.size
  have hlt1 := heap_lt hd1
  clear c1 b1 hd1 HD0 B0
  have hcl := C1.out.cur.lt
  have hpl := C1.out.lt
  generalize w0.heap.size = n at C1 hcl hpl hz0 hlt0 ⊢
  go_wp2_with fail
  have S2 := Lib.hid (C1.out.alloc (.cells #[.pointer (some ⟨n + 1, 0, none⟩)] 48))
  have B2 := Lib.hid (B1.out.alloc B1.out.size (.cells #[.pointer (some ⟨n + 1, 0, none⟩)] 48))
  have HD2 := Lib.hid (show (w1.alloc (.cells #[.pointer (some ⟨n + 1, 0, none⟩)] 48)).heap[w.heap.size]? = some (.cells #[.int .i64 0, .int .i64 0, .int .i64 0, .int .i64 0] 28) by rw [((Below.refl _ w1).alloc (Nat.le_refl _) _).block _ hlt1]; exact HD1.out)
  refine (toks_any (n + 1) n s _ S2.out).mono ?_
  generalize w1.alloc (.cells #[.pointer (some ⟨n + 1, 0, none⟩)] 48) = w2 at S2 B2 HD2
  rw [HR.out]
  unfold ToksPost diagV
  rintro e w3 ⟨v, rfl, o3, on3⟩
  have hd3 : w3.heap[w.heap.size]? = some (.cells #[.int .i64 0, .int .i64 0, .int .i64 0, .int .i64 0] 28) := (on3.block _ (by omega) (heap_lt HD2.out)).trans HD2.out
  have z0 : w3.cell? ⟨w.heap.size, 0, none⟩ = some (.int .i64 0) := by simp [World.cell?, hd3]
  have z1 : w3.cell? ⟨w.heap.size, 1, none⟩ = some (.int .i64 0) := by simp [World.cell?, hd3]
  have z2 : w3.cell? ⟨w.heap.size, 2, none⟩ = some (.int .i64 0) := by simp [World.cell?, hd3]
  have z3 : w3.cell? ⟨w.heap.size, 3, none⟩ = some (.int .i64 0) := by simp [World.cell?, hd3]
  have zf : ∀ o, w3.frozen? ⟨w.heap.size, o, none⟩ = false := fun o => by simp [World.frozen?, hd3]
  have O3 := Lib.hid o3
  have B3 := Lib.hid (B2.out.trans (on3.below (B := w.heap.size) (by omega) B2.out.size))
  have hw2 : w.heap.size < w2.heap.size := heap_lt HD2.out
  clear o3 on3 hd3
  go_wp2_with fail
  refine bodyPost_ret (v := .tuple #[v, .agg #[.int .i64 (R.code : Nat), .int .i64 (R.pos : Nat), .int .i64 (lineOf s R.pos : Nat), .int .i64 (colOf s R.pos : Nat)]]) (by simp [results, Tryd.results13, go_sem, z0, z1, z2, z3]) rfl ⟨v, rfl, ?_, (((B3.out.setCell (Nat.le_refl _) _).setCell (Nat.le_refl _) _).setCell (Nat.le_refl _) _).setCell (Nat.le_refl _) _⟩
  refine OwnT.kept (O3.out.mono (by omega)) fun b hb => ?_
  have hb1 := (O3.out.lt b hb).1
  rw [Below.heap_setCell _ _ _ _ (by simp; omega), Below.heap_setCell _ _ _ _ (by simp; omega), Below.heap_setCell _ _ _ _ (by simp; omega), Below.heap_setCell _ _ _ _ (by simp; omega)]
end Go.Proofs.YtjdmaindoohmkaaDoor.P
