/-
  A token, and all of them, walked.
-/
import Derived.Test.YtjdmaindoohmkaaDoorPSi
namespace Go.Proofs.YtjdmaindoohmkaaDoor.P
open Go.RowKit Go.Sort

theorem ScAt.new (w : World) (s : ByteArray) : ScAt ((w.alloc (.cells #[.string s, .int .i64 0, .int .i64 0, .int .i64 0] 79)).alloc (.cells #[.pointer (some ⟨w.heap.size, 0, none⟩), .int .i64 0, .string s] 62)) (w.heap.size + 1) w.heap.size s 0 := by
  have e : (w.alloc (.cells #[.string s, .int .i64 0, .int .i64 0, .int .i64 0] 79)).heap.size = w.heap.size + 1 := by simp
  have hc := CurAt.new w s
  refine ⟨hc.stays (((Below.refl _ _).alloc (Nat.le_refl _) _).block _ hc.lt), ?_, by omega⟩
  rw [← e, heap_new]
set_option maxHeartbeats 400000 in
theorem newSc (s : ByteArray) (w : World) :
    Calls Tryd.prog 22 #[.int .i64 0, .string s] w fun e w' => e = .returned (.pointer (some ⟨w.heap.size + 1, 0, none⟩)) ∧ ScAt w' (w.heap.size + 1) w.heap.size s 0 ∧ Below w.heap.size w w' := by
  have hsc := Lib.hid (ScAt.new w s)
  have hb := Lib.hid (show Below w.heap.size w ((w.alloc (.cells #[.string s, .int .i64 0, .int .i64 0, .int .i64 0] 79)).alloc (.cells #[.pointer (some ⟨w.heap.size, 0, none⟩), .int .i64 0, .string s] 62)) from ((Below.refl _ _).alloc (Nat.le_refl _) _).alloc (by simp) _)
  go_enter Tryd.func22, Tryd.ntmps22
  go_wp2_with fail
  refine (new_any s _).mono ?_
  rintro e w1 ⟨rfl, rfl⟩
  go_wp2_with fail
  go_ret
  refine ⟨by simp, hsc.out, hb.out⟩
theorem beg_cons (c : UInt8) (r : List UInt8) : begL 0 (c :: r) = (c == 123) := by
  unfold begL begs
  rw [show diaB 0 = true from rfl, Bool.true_and, show opL 0 = [123] from rfl, hp_cons, hp_nil, Bool.and_true]
  exact Bool.beq_comm
theorem fd_note {s : ByteArray} {k : Nat} (h : k < s.size) (hc : (bt s k == 123) = true) : fdAt s k = noteL (123 :: s.data.toList.drop (k + 1)) := by
  unfold fdAt; rw [drop_bt s k h, tokL_cons, if_pos hc, show bt s k = 123 by simpa using hc]
theorem fd_int {s : ByteArray} {k : Nat} (h : k < s.size) (hc : (bt s k == 123) = false) (hd : isDig (bt s k) = true) : fdAt s k = intL ((s.data.toList.drop k).takeWhile isDig) := by
  unfold fdAt; rw [drop_bt s k h, tokL_cons, hc, if_neg (by decide), if_pos hd]
theorem fd_own {s : ByteArray} {k : Nat} (h : k < s.size) (hc : (bt s k == 123) = false) (hd : isDig (bt s k) = false) : fdAt s k = ownF s k := by
  unfold fdAt ownF; rw [drop_bt s k h, tokL_cons, hc, if_neg (by decide), hd, if_neg (by decide)]
set_option maxHeartbeats 1000000 in
theorem token_end (p c k : Nat) (s : ByteArray) (v : Value) (w : World) (h : ScAt w p c s k) (hs : s.size ≤ maxLen) (hk : ¬ k < s.size) :
    Calls Tryd.prog 34 #[.pointer (some ⟨p, 0, none⟩), v] w (TokPost c s k (bad 0) w) := by
  have hcl := h.cur.lt
  have hpl := h.lt
  have h0 := h.c0
  have H := Lib.hid h
  clear h
  have hP := fun w1 hc => peek_bt c k 0 s w1 hc hs
  rw [Nat.add_zero, decide_eq_false hk] at hP
  have HP := Lib.hid hP
  clear hP
  go_enter Tryd.func34, Tryd.ntmps34
  go_wp2_with fail
  refine (HP.out _ (H.out.alloc _).cur).mono ?_
  have Z := Lib.hid (TokZ.new w)
  have B := Lib.hid (show Below w.heap.size w (w.alloc (.cells #[.int .i64 0, .string ⟨#[]⟩, .int .i64 0, .bool false, .int .i64 0, .int .i64 0, .int .i64 0] 38)) from (Below.refl _ _).alloc (Nat.le_refl _) _)
  have H0 := Lib.hid (H.out.alloc (.cells #[.int .i64 0, .string ⟨#[]⟩, .int .i64 0, .bool false, .int .i64 0, .int .i64 0, .int .i64 0] 38))
  generalize w.alloc (.cells #[.int .i64 0, .string ⟨#[]⟩, .int .i64 0, .bool false, .int .i64 0, .int .i64 0, .int .i64 0] 38) = w0 at Z B H0
  rintro e w1 ⟨rfl, n, hw1⟩
  have Z1 := Lib.hid (show TokZ w1 w.heap.size by rw [hw1]; exact ⟨Z.out.blk⟩)
  have C1 := Lib.hid (show CurAt w1 c s k by rw [hw1]; exact H0.out.cur.drewN n)
  have O1 := Lib.hid (show Only c w w1 by rw [hw1]; exact ((Only.refl c w0).drewN n).from B.out)
  obtain ⟨g0, g1, g2, g3, g4, g5, g6, gf⟩ := Z1.out.facts
  clear hw1 Z B H0 h0
  go_wp2_with fail
  exact bodyPost_ret (v := .tuple #[tokV (bad 0), .int .i64 0]) (by simp [results, Tryd.results34, go_sem, tokV, bad, g0, g1, g2, g3, g4, g5, g6]) rfl (post7 (f := bad 0) (by omega) (by omega) O1.out (fun _ => C1.out) _ _ _ _ _ _ _)
set_option maxHeartbeats 2000000 in
theorem token_in (p c k : Nat) (s : ByteArray) (w : World) (h : ScAt w p c s k) (hs : s.size ≤ 100000) (hk : k < s.size) :
    Calls Tryd.prog 34 #[.pointer (some ⟨p, 0, none⟩), .func (.func 24) #[.agg #[.pointer (some ⟨p, 0, none⟩)]] #[]] w (TokPost c s k (fdAt s k) w) := by
  have hsm : s.size ≤ maxLen := by unfold maxLen; omega
  have hcl := h.cur.lt
  have hpl := h.lt
  have h0 := h.c0
  have H := Lib.hid h
  clear h
  have hP := fun w1 hc => peek_bt c k 0 s w1 hc hsm
  rw [Nat.add_zero, decide_eq_true hk] at hP
  have HP := Lib.hid hP
  clear hP
  have hB := fun w1 => begins_any 0 (restOf s k) w1
  rw [restOf_l, drop_bt s k hk, beg_cons] at hB
  have HRS := Lib.hid fun w1 hw => rest_any p c k s w1 hw
  have hD := fun w1 => oneOf_any setD (bt s k) w1
  rw [setD_has] at hD
  cases hc : bt s k == 123 with
  | true =>
    rw [hc] at hB
    have HB := Lib.hid hB
    rw [fd_note hk hc]
    have HQ := Lib.hid fun w1 hw => comment_tok p c k s (s.data.toList.drop (k + 1)) w1 hw hsm (by rw [drop_bt s k hk, show bt s k = 123 by simpa using hc])
    generalize noteL (123 :: s.data.toList.drop (k + 1)) = f at HQ ⊢
    clear hB hc hD
    go_enter Tryd.func34, Tryd.ntmps34
    go_wp2_with fail
    refine (HP.out _ (H.out.alloc _).cur).mono ?_
    have Z := Lib.hid (TokZ.new w)
    have B := Lib.hid (show Below w.heap.size w (w.alloc (.cells #[.int .i64 0, .string ⟨#[]⟩, .int .i64 0, .bool false, .int .i64 0, .int .i64 0, .int .i64 0] 38)) from (Below.refl _ _).alloc (Nat.le_refl _) _)
    have H0 := Lib.hid (H.out.alloc (.cells #[.int .i64 0, .string ⟨#[]⟩, .int .i64 0, .bool false, .int .i64 0, .int .i64 0, .int .i64 0] 38))
    generalize w.alloc (.cells #[.int .i64 0, .string ⟨#[]⟩, .int .i64 0, .bool false, .int .i64 0, .int .i64 0, .int .i64 0] 38) = w00 at Z B H0
    rintro e w0 ⟨rfl, n, hw1⟩
    have Z0 := Lib.hid (show TokZ w0 w.heap.size by rw [hw1]; exact ⟨Z.out.blk⟩)
    have S0 := Lib.hid (show ScAt w0 p c s k by rw [hw1]; exact H0.out.drewN n)
    have O0 := Lib.hid (show Only c w w0 by rw [hw1]; exact ((Only.refl c w00).drewN n).from B.out)
    clear hw1 Z B H0 h0
    go_wp2_with fail
    have k1 := cell_regrown S0.out.c1
    have cS : ∀ d os, Calls Tryd.prog 55 #[.pointer (some ⟨p, 0, none⟩)] (grow (redrawn w0 d) os) fun e w'' => e = .returned (.string (restOf s k)) ∧ ∃ p : Regrown, w'' = grow (redrawn w0 p.d) p.os := fun d os =>
      Calls.regrown_of (HRS.out _ (S0.out.below (below_regrown w0 d os)))
    have cR : ∀ d os, Calls Tryd.prog 54 #[.int .i64 0, .string (restOf s k)] (grow (redrawn w0 d) os) fun e w'' => e = .returned (.bool true) ∧ ∃ p : Regrown, w'' = grow (redrawn w0 p.d) p.os := fun d os =>
      Calls.regrown_of (HB.out _)
    have CS := Lib.hid cS
    have CR := Lib.hid cR
    clear cS cR
    refine wp_region_quiet_below (by kernel_rfl) (by kernel_rfl) ?_
    repeat (first | go_big_quiet_step ((first | with_reducible exact CS.out _ _ | with_reducible exact CR.out _ _)) | quiet_step ((first | with_reducible exact CS.out _ _ | with_reducible exact CR.out _ _)))
    refine wpQuiet_nil ?_
    intro w1 hw'
    obtain ⟨⟨dq, osq⟩, hw''⟩ := hw'
    have b1 : Below w0.heap.size w0 w1 := by rw [hw'']; exact below_regrown w0 dq osq
    have S1 := Lib.hid (S0.out.below b1)
    have Z1 := Lib.hid (Z0.out.below b1)
    have O1 := Lib.hid (O0.out.belowR b1)
    clear hw'' b1 k1 CS CR Z0 S0 O0
    go_wp2_with fail
    refine (HQ.out _ S1.out).mono ?_
    unfold TokPost tokV
    rintro e w4 ⟨rfl, o4, c4⟩
    have C4 := Lib.hid c4
    have O4 := Lib.hid (O1.out.trans o4)
    have Z4 := Lib.hid (Z1.out.only o4 (by omega))
    obtain ⟨g0, g1, g2, g3, g4, g5, g6, gf⟩ := Z4.out.facts
    clear c4 o4
    go_wp2_with fail
    exact bodyPost_ret (v := .tuple #[tokV f, .int .i64 (f.err : Nat)]) (by simp [results, Tryd.results34, go_sem, tokV, g0, g1, g2, g3, g4, g5, g6]) rfl (post7 (f := f) (by omega) (by omega) O4.out C4.out _ _ _ _ _ _ _)
  | false =>
    rw [hc] at hB
    have HB := Lib.hid hB
    clear hB
    cases hd : isDig (bt s k) with
    | true =>
      rw [hd] at hD
      have HD := Lib.hid hD
      rw [fd_int hk hc hd]
      have HQ := Lib.hid fun w1 hw => number_tok p c k s w1 hw hsm (by rw [drop_bt s k hk]; exact tw_pos hd)
      generalize intL ((s.data.toList.drop k).takeWhile isDig) = f at HQ ⊢
      clear hc hd hD
      go_enter Tryd.func34, Tryd.ntmps34
      go_wp2_with fail
      refine (HP.out _ (H.out.alloc _).cur).mono ?_
      have Z := Lib.hid (TokZ.new w)
      have B := Lib.hid (show Below w.heap.size w (w.alloc (.cells #[.int .i64 0, .string ⟨#[]⟩, .int .i64 0, .bool false, .int .i64 0, .int .i64 0, .int .i64 0] 38)) from (Below.refl _ _).alloc (Nat.le_refl _) _)
      have H0 := Lib.hid (H.out.alloc (.cells #[.int .i64 0, .string ⟨#[]⟩, .int .i64 0, .bool false, .int .i64 0, .int .i64 0, .int .i64 0] 38))
      generalize w.alloc (.cells #[.int .i64 0, .string ⟨#[]⟩, .int .i64 0, .bool false, .int .i64 0, .int .i64 0, .int .i64 0] 38) = w00 at Z B H0
      rintro e w0 ⟨rfl, n, hw1⟩
      have Z0 := Lib.hid (show TokZ w0 w.heap.size by rw [hw1]; exact ⟨Z.out.blk⟩)
      have S0 := Lib.hid (show ScAt w0 p c s k by rw [hw1]; exact H0.out.drewN n)
      have O0 := Lib.hid (show Only c w w0 by rw [hw1]; exact ((Only.refl c w00).drewN n).from B.out)
      clear hw1 Z B H0 h0
      go_wp2_with fail
      have k1 := cell_regrown S0.out.c1
      have cS : ∀ d os, Calls Tryd.prog 55 #[.pointer (some ⟨p, 0, none⟩)] (grow (redrawn w0 d) os) fun e w'' => e = .returned (.string (restOf s k)) ∧ ∃ p : Regrown, w'' = grow (redrawn w0 p.d) p.os := fun d os =>
        Calls.regrown_of (HRS.out _ (S0.out.below (below_regrown w0 d os)))
      have cR : ∀ d os, Calls Tryd.prog 54 #[.int .i64 0, .string (restOf s k)] (grow (redrawn w0 d) os) fun e w'' => e = .returned (.bool false) ∧ ∃ p : Regrown, w'' = grow (redrawn w0 p.d) p.os := fun d os =>
        Calls.regrown_of (HB.out _)
      have CS := Lib.hid cS
      have CR := Lib.hid cR
      clear cS cR
      refine wp_region_quiet_below (by kernel_rfl) (by kernel_rfl) ?_
      repeat (first | go_big_quiet_step ((first | with_reducible exact CS.out _ _ | with_reducible exact CR.out _ _)) | quiet_step ((first | with_reducible exact CS.out _ _ | with_reducible exact CR.out _ _)))
      refine wpQuiet_nil ?_
      intro w1 hw'
      obtain ⟨⟨dq, osq⟩, hw''⟩ := hw'
      have b1 : Below w0.heap.size w0 w1 := by rw [hw'']; exact below_regrown w0 dq osq
      have S1 := Lib.hid (S0.out.below b1)
      have Z1 := Lib.hid (Z0.out.below b1)
      have O1 := Lib.hid (O0.out.belowR b1)
      clear hw'' b1 k1 CS CR Z0 S0 O0
      go_wp2_with fail
      refine (HD.out _).mono ?_
      rintro e w3 ⟨rfl, rfl⟩
      go_wp2_with fail
      refine (HQ.out _ S1.out).mono ?_
      unfold TokPost tokV
      rintro e w4 ⟨rfl, o4, c4⟩
      have C4 := Lib.hid c4
      have O4 := Lib.hid (O1.out.trans o4)
      have Z4 := Lib.hid (Z1.out.only o4 (by omega))
      obtain ⟨g0, g1, g2, g3, g4, g5, g6, gf⟩ := Z4.out.facts
      clear c4 o4
      go_wp2_with fail
      exact bodyPost_ret (v := .tuple #[tokV f, .int .i64 (f.err : Nat)]) (by simp [results, Tryd.results34, go_sem, tokV, g0, g1, g2, g3, g4, g5, g6]) rfl (post7 (f := f) (by omega) (by omega) O4.out C4.out _ _ _ _ _ _ _)
    | false =>
      rw [hd] at hD
      have HD := Lib.hid hD
      rw [fd_own hk hc hd]
      have HQ := Lib.hid fun w1 hw => own_tok p c k s w1 hw hs hk
      generalize ownF s k = f at HQ ⊢
      clear hc hd hD
      go_enter Tryd.func34, Tryd.ntmps34
      go_wp2_with fail
      refine (HP.out _ (H.out.alloc _).cur).mono ?_
      have Z := Lib.hid (TokZ.new w)
      have B := Lib.hid (show Below w.heap.size w (w.alloc (.cells #[.int .i64 0, .string ⟨#[]⟩, .int .i64 0, .bool false, .int .i64 0, .int .i64 0, .int .i64 0] 38)) from (Below.refl _ _).alloc (Nat.le_refl _) _)
      have H0 := Lib.hid (H.out.alloc (.cells #[.int .i64 0, .string ⟨#[]⟩, .int .i64 0, .bool false, .int .i64 0, .int .i64 0, .int .i64 0] 38))
      generalize w.alloc (.cells #[.int .i64 0, .string ⟨#[]⟩, .int .i64 0, .bool false, .int .i64 0, .int .i64 0, .int .i64 0] 38) = w00 at Z B H0
      rintro e w0 ⟨rfl, n, hw1⟩
      have Z0 := Lib.hid (show TokZ w0 w.heap.size by rw [hw1]; exact ⟨Z.out.blk⟩)
      have S0 := Lib.hid (show ScAt w0 p c s k by rw [hw1]; exact H0.out.drewN n)
      have O0 := Lib.hid (show Only c w w0 by rw [hw1]; exact ((Only.refl c w00).drewN n).from B.out)
      clear hw1 Z B H0 h0
      go_wp2_with fail
      have k1 := cell_regrown S0.out.c1
      have cS : ∀ d os, Calls Tryd.prog 55 #[.pointer (some ⟨p, 0, none⟩)] (grow (redrawn w0 d) os) fun e w'' => e = .returned (.string (restOf s k)) ∧ ∃ p : Regrown, w'' = grow (redrawn w0 p.d) p.os := fun d os =>
        Calls.regrown_of (HRS.out _ (S0.out.below (below_regrown w0 d os)))
      have cR : ∀ d os, Calls Tryd.prog 54 #[.int .i64 0, .string (restOf s k)] (grow (redrawn w0 d) os) fun e w'' => e = .returned (.bool false) ∧ ∃ p : Regrown, w'' = grow (redrawn w0 p.d) p.os := fun d os =>
        Calls.regrown_of (HB.out _)
      have CS := Lib.hid cS
      have CR := Lib.hid cR
      clear cS cR
      refine wp_region_quiet_below (by kernel_rfl) (by kernel_rfl) ?_
      repeat (first | go_big_quiet_step ((first | with_reducible exact CS.out _ _ | with_reducible exact CR.out _ _)) | quiet_step ((first | with_reducible exact CS.out _ _ | with_reducible exact CR.out _ _)))
      refine wpQuiet_nil ?_
      intro w1 hw'
      obtain ⟨⟨dq, osq⟩, hw''⟩ := hw'
      have b1 : Below w0.heap.size w0 w1 := by rw [hw'']; exact below_regrown w0 dq osq
      have S1 := Lib.hid (S0.out.below b1)
      have Z1 := Lib.hid (Z0.out.below b1)
      have O1 := Lib.hid (O0.out.belowR b1)
      clear hw'' b1 k1 CS CR Z0 S0 O0
      go_wp2_with fail
      refine (HD.out _).mono ?_
      rintro e w3 ⟨rfl, rfl⟩
      go_wp2_with fail
      refine (HQ.out _ S1.out).mono ?_
      unfold TokPost tokV
      rintro e w4 ⟨rfl, o4, c4⟩
      have C4 := Lib.hid c4
      have O4 := Lib.hid (O1.out.trans o4)
      have Z4 := Lib.hid (Z1.out.only o4 (by omega))
      obtain ⟨g0, g1, g2, g3, g4, g5, g6, gf⟩ := Z4.out.facts
      clear c4 o4
      go_wp2_with fail
      exact bodyPost_ret (v := .tuple #[tokV f, .int .i64 (f.err : Nat)]) (by simp [results, Tryd.results34, go_sem, tokV, g0, g1, g2, g3, g4, g5, g6]) rfl (post7 (f := f) (by omega) (by omega) O4.out C4.out _ _ _ _ _ _ _)
theorem token_tok (p c k : Nat) (s : ByteArray) (w : World) (h : ScAt w p c s k) (hs : s.size ≤ 100000) :
    Calls Tryd.prog 34 #[.pointer (some ⟨p, 0, none⟩), .func (.func 24) #[.agg #[.pointer (some ⟨p, 0, none⟩)]] #[]] w (TokPost c s k (fdAt s k) w) := by
  by_cases hk : k < s.size
  · exact token_in p c k s w h hs hk
  · rw [fd_end s k hk]; exact token_end p c k s _ w h (by unfold maxLen; omega) hk
end Go.Proofs.YtjdmaindoohmkaaDoor.P
