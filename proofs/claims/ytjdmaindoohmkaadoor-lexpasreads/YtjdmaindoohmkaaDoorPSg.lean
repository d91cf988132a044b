/-
  The scanner's reader of a comment, walked.
-/
import Derived.Test.YtjdmaindoohmkaaDoorPSf
import Derived.Test.YtjdmaindoohmkaaDoorRead
namespace Go.Proofs.YtjdmaindoohmkaaDoor.P
open Go.RowKit Go.Sort

theorem note_ok {l : List UInt8} {t : List UInt8} {u e : Nat} (h : readL 0 l = (t, u, e)) (he : e = 0) : noteL l = ⟨6, t, 0, u, 0⟩ := by
  unfold noteL; rw [h, if_pos he]
theorem note_bad {l : List UInt8} {t : List UInt8} {u e : Nat} (h : readL 0 l = (t, u, e)) (he : e ≠ 0) : noteL l = bad e := by
  unfold noteL; rw [h, if_neg he]
set_option maxHeartbeats 1000000 in
theorem comment_tok (p c k : Nat) (s : ByteArray) (r : List UInt8) (w : World) (h : ScAt w p c s k) (hs : s.size ≤ maxLen) (hr : s.data.toList.drop k = 123 :: r) :
    Calls Tryd.prog 56 #[.pointer (some ⟨p, 0, none⟩)] w (TokPost c s k (noteL (123 :: r)) w) := by
  have hcl := h.cur.lt
  have hpl := h.lt
  have hk := h.cur.le
  have hlen : r.length + 1 = s.size - k := by have := congrArg List.length hr; rw [List.length_drop, len_size, List.length_cons] at this; omega
  have hu := note_use r
  have H := Lib.hid h
  clear h
  have hR := fun w1 => read_any 0 (restOf s k) w1 (by rw [restOf_size]; omega)
  rw [restOf_l, hr] at hR
  obtain ⟨t, u, e, hq⟩ : ∃ t u e, readL 0 (123 :: r) = (t, u, e) := ⟨_, _, _, rfl⟩
  rw [hq] at hR
  unfold ans at hR
  have hR : ∀ w1, Calls Tryd.prog 83 #[.int .i64 0, .string (restOf s k)] w1 fun e_1 w' => e_1 = .returned (.tuple #[.string ⟨t.toArray⟩, .int .i64 (u : Nat), .int .i64 (e : Nat)]) ∧ Below w1.heap.size w1 w' := hR
  have HR := Lib.hid hR
  have HRS := Lib.hid fun w1 hw => rest_any p c k s w1 hw
  clear hR hr
  by_cases he : e = 0
  · rw [note_ok hq he] at hu ⊢
    have hu2 := (hu rfl).2.1
    have d1 : ((e : Int) != 0) = false := by subst he; rfl
    clear hu hq
    have HE := Lib.hid he
    clear he
    go_enter Tryd.func56, Tryd.ntmps56
    go_wp2_with fail
    have Z := Lib.hid (TokZ.new w)
    have B := Lib.hid (show Below w.heap.size w (w.alloc (.cells #[.int .i64 0, .string ⟨#[]⟩, .int .i64 0, .bool false, .int .i64 0, .int .i64 0, .int .i64 0] 38)) from (Below.refl _ _).alloc (Nat.le_refl _) _)
    have H0 := Lib.hid (H.out.alloc (.cells #[.int .i64 0, .string ⟨#[]⟩, .int .i64 0, .bool false, .int .i64 0, .int .i64 0, .int .i64 0] 38))
    generalize w.alloc (.cells #[.int .i64 0, .string ⟨#[]⟩, .int .i64 0, .bool false, .int .i64 0, .int .i64 0, .int .i64 0] 38) = w0 at Z B H0 ⊢
    have k1 := cell_regrown H0.out.c1
    have kf := (fun d os => (Z.out.below (below_regrown w0 d os)).facts)
    have cS : ∀ d os, Calls Tryd.prog 55 #[.pointer (some ⟨p, 0, none⟩)] (grow (redrawn w0 d) os) fun e w'' => e = .returned (.string (restOf s k)) ∧ ∃ p : Regrown, w'' = grow (redrawn w0 p.d) p.os := fun d os =>
      Calls.regrown_of (HRS.out _ (H0.out.below (below_regrown w0 d os)))
    have cR : ∀ d os, Calls Tryd.prog 83 #[.int .i64 0, .string (restOf s k)] (grow (redrawn w0 d) os) fun e_1 w'' => e_1 = .returned (.tuple #[.string ⟨t.toArray⟩, .int .i64 (u : Nat), .int .i64 (e : Nat)]) ∧ ∃ p : Regrown, w'' = grow (redrawn w0 p.d) p.os := fun d os =>
      Calls.regrown_of (HR.out _)
    have CS := Lib.hid cS
    have CR := Lib.hid cR
    clear cS cR kf
    refine wp_region_quiet_below (by kernel_rfl) (by kernel_rfl) ?_
    repeat (first | go_big_quiet_step ((first | with_reducible exact CS.out _ _ | with_reducible exact CR.out _ _)) | quiet_step ((first | with_reducible exact CS.out _ _ | with_reducible exact CR.out _ _)))
    refine wpQuiet_nil ?_
    intro w1 hw'
    obtain ⟨⟨dq, osq⟩, hw''⟩ := hw'
    have b1 : Below w0.heap.size w0 w1 := by rw [hw'']; exact below_regrown w0 dq osq
    have H1 := Lib.hid (H0.out.below b1)
    have Z1 := Lib.hid (Z.out.below b1)
    have B1 := Lib.hid (B.out.trans (b1.mono B.out.size))
    have h01 := H1.out.c0
    clear hw'' b1 k1 CS CR Z B H0
    go_wp2_with fail
    refine (skip_any c k (u : Int) s _ H1.out.cur hs).mono ?_
    rw [show skipN (u : Int) k s = u by unfold skipN; omega]
    rintro e w4 ⟨rfl, c4, o4⟩
    have C4 := Lib.hid c4
    have O4 := Lib.hid ((Only.ofBelow B1.out (Nat.le_refl _)).trans o4)
    have Z4 := Lib.hid (Z1.out.only o4 (by omega))
    obtain ⟨g0, g1, g2, g3, g4, g5, g6, gf⟩ := Z4.out.facts
    clear c4 o4 h01
    go_wp2_with fail
    exact bodyPost_ret (v := .tuple #[tokV ⟨6, t, 0, u, 0⟩, .int .i64 0]) (by simp [results, Tryd.results56, go_sem, tokV, g0, g1, g2, g3, g4, g5, g6]) rfl (post7 (f := ⟨6, t, 0, u, 0⟩) (Nat.le_refl _) (by omega) O4.out (fun _ => C4.out) _ _ _ _ _ _ _)
  · rw [note_bad hq he]
    have d1 : ((e : Int) != 0) = true := by simp; omega
    clear hu hq
    go_enter Tryd.func56, Tryd.ntmps56
    go_wp2_with fail
    have Z := Lib.hid (TokZ.new w)
    have B := Lib.hid (show Below w.heap.size w (w.alloc (.cells #[.int .i64 0, .string ⟨#[]⟩, .int .i64 0, .bool false, .int .i64 0, .int .i64 0, .int .i64 0] 38)) from (Below.refl _ _).alloc (Nat.le_refl _) _)
    have H0 := Lib.hid (H.out.alloc (.cells #[.int .i64 0, .string ⟨#[]⟩, .int .i64 0, .bool false, .int .i64 0, .int .i64 0, .int .i64 0] 38))
    generalize w.alloc (.cells #[.int .i64 0, .string ⟨#[]⟩, .int .i64 0, .bool false, .int .i64 0, .int .i64 0, .int .i64 0] 38) = w0 at Z B H0 ⊢
    have k1 := cell_regrown H0.out.c1
    have kf := (fun d os => (Z.out.below (below_regrown w0 d os)).facts)
    have cS : ∀ d os, Calls Tryd.prog 55 #[.pointer (some ⟨p, 0, none⟩)] (grow (redrawn w0 d) os) fun e w'' => e = .returned (.string (restOf s k)) ∧ ∃ p : Regrown, w'' = grow (redrawn w0 p.d) p.os := fun d os =>
      Calls.regrown_of (HRS.out _ (H0.out.below (below_regrown w0 d os)))
    have cR : ∀ d os, Calls Tryd.prog 83 #[.int .i64 0, .string (restOf s k)] (grow (redrawn w0 d) os) fun e_1 w'' => e_1 = .returned (.tuple #[.string ⟨t.toArray⟩, .int .i64 (u : Nat), .int .i64 (e : Nat)]) ∧ ∃ p : Regrown, w'' = grow (redrawn w0 p.d) p.os := fun d os =>
      Calls.regrown_of (HR.out _)
    have CS := Lib.hid cS
    have CR := Lib.hid cR
    clear cS cR kf
    refine wp_region_quiet_below (by kernel_rfl) (by kernel_rfl) ?_
    repeat (first | go_big_quiet_step ((first | with_reducible exact CS.out _ _ | with_reducible exact CR.out _ _)) | quiet_step ((first | with_reducible exact CS.out _ _ | with_reducible exact CR.out _ _)))
    refine wpQuiet_nil ?_
    intro w1 hw'
    obtain ⟨⟨dq, osq⟩, hw''⟩ := hw'
    have b1 : Below w0.heap.size w0 w1 := by rw [hw'']; exact below_regrown w0 dq osq
    have H1 := Lib.hid (H0.out.below b1)
    have Z1 := Lib.hid (Z.out.below b1)
    have B1 := Lib.hid (B.out.trans (b1.mono B.out.size))
    have h01 := H1.out.c0
    clear hw'' b1 k1 CS CR Z B H0
    obtain ⟨g0, g1, g2, g3, g4, g5, g6, gf⟩ := Z1.out.facts
    go_wp2_with fail
    exact bodyPost_ret (v := .tuple #[tokV (bad e), .int .i64 (e : Nat)]) (by simp [results, Tryd.results56, go_sem, tokV, bad, g0, g1, g2, g3, g4, g5, g6]) rfl (post7 (f := bad e) (Nat.le_refl _) (by omega) (Only.ofBelow B1.out (Nat.le_refl _)) (fun h => absurd h he) _ _ _ _ _ _ _)
end Go.Proofs.YtjdmaindoohmkaaDoor.P
