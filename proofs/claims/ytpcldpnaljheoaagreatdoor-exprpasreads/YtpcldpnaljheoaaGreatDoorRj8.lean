/-
  The document's reader of expressions, walked: what binds most: truths, numbers, characters, names.
-/
import Derived.Test.YtpcldpnaljheoaaGreatDoorRi8
namespace Go.Proofs.YtpcldpnaljheoaaGreatDoor
open Go.RowKit Go.Deep Go.Sort

theorem isT_kind {ts : List Tok} {s : RS} {l : List ByteArray} (h : isT ts s l = true) : (cur ts s).kind = 2 ∨ (cur ts s).kind = 5 := by
  unfold isT at h
  rw [isW_kB, Bool.and_eq_true] at h
  have := h.1
  unfold kB at this
  simpa using this
theorem isT_kinds {ts : List Tok} {s : RS} {l : List ByteArray} (h : isT ts s l = true) : (cur ts s).kind ≠ 1 ∧ (cur ts s).kind ≠ 3 ∧ (cur ts s).kind ≠ 4 := by
  rcases isT_kind h with e | e <;> omega
theorem more_true {ts : List Tok} {s : RS} (N : RS → XS) (h : isT ts s [trueB] = true) : (if (cur ts s).kind = 1 then N s else constP ts s) = (mkE 2 1 noB noB [], stepS s) := by
  obtain ⟨h1, h3, h4⟩ := isT_kinds h
  have hx : isT ts s [falseB] = false := by
    have hk : kB (cur ts s) = true := by unfold isT at h; rw [isW_kB, Bool.and_eq_true] at h; exact h.1
    have ht : (cur ts s).text = trueB := by unfold isT at h; rw [isW_one hk] at h; exact of_decide_eq_true h
    unfold isT
    rw [isW_one hk, ht]
    decide
  unfold constP
  rw [if_neg h1, if_neg h3, if_neg h4, if_neg (by rw [hx]; decide), if_pos h]
theorem more_false {ts : List Tok} {s : RS} (N : RS → XS) (h : isT ts s [falseB] = true) : (if (cur ts s).kind = 1 then N s else constP ts s) = (mkE 2 0 noB noB [], stepS s) := by
  obtain ⟨h1, h3, h4⟩ := isT_kinds h
  unfold constP
  rw [if_neg h1, if_neg h3, if_neg h4, if_pos h]
theorem more_int {ts : List Tok} {s : RS} (N : RS → XS) (h : (cur ts s).kind = 3) : (if (cur ts s).kind = 1 then N s else constP ts s) = (mkE 1 ((cur ts s).n : Int) noB noB [], stepS s) := by
  unfold constP
  rw [if_neg (by omega), if_pos h]
theorem more_chr {ts : List Tok} {s : RS} (N : RS → XS) (h : (cur ts s).kind = 4) : (if (cur ts s).kind = 1 then N s else constP ts s) = (mkE 3 ((cur ts s).n : Int) noB noB [], stepS s) := by
  unfold constP
  rw [if_neg (by omega), if_neg (by omega), if_pos h]
theorem more_else {ts : List Tok} {s : RS} (N : RS → XS) (h3 : (cur ts s).kind ≠ 3) (h4 : (cur ts s).kind ≠ 4) (hf : isT ts s [falseB] = false) (ht : isT ts s [trueB] = false) : (if (cur ts s).kind = 1 then N s else constP ts s) = (if (cur ts s).kind = 1 then N s else (e0, refuseS ts s)) := by
  by_cases hk : (cur ts s).kind = 1
  · rw [if_pos hk, if_pos hk]
  · rw [if_neg hk, if_neg hk]
    unfold constP
    rw [if_neg h3, if_neg h4, if_neg (by rw [hf]; decide), if_neg (by rw [ht]; decide)]
theorem tk_num {ts : List Tok} {s : RS} (hok : TsOk ts) (h : (cur ts s).kind ≠ 0) : (cur ts s).n ≤ 9223372036854775807 ∧ s.k < ts.length :=
  ⟨hok.num _ (List.mem_of_getElem? (cur_k h).2.2), (cur_k h).2.1⟩
set_option maxRecDepth 100000 in
set_option maxHeartbeats 4000000 in
theorem rfac_more {g cap : Nat} {ts : List Tok} {N : RS → XS} {s : RS} {w : World} (hN : ∀ W, TkW g ts W → Calls Tryz.prog 137 (facA g cap ts s.k) W (GPost W.heap.size (if (cur ts s).kind = 1 then N s else (e0, refuseS ts s)) W)) (hf : s.f = 0) (h : TkW g ts w) (hi : isT ts s [notB] = false) (hj : isT ts s [⟨#[40]⟩] = false) :
    Calls Tryz.prog 86 (facA g cap ts s.k) w (GPost w.heap.size (if (cur ts s).kind = 1 then N s else constP ts s) w) := by
  have hlen := h.ok.len
  have hnt : isW (tkAt ts s.k) [notB] = false := by unfold isT at hi; rw [cur_tk hf] at hi; exact hi
  have hpt : isW (tkAt ts s.k) [⟨#[40]⟩] = false := by unfold isT at hj; rw [cur_tk hf] at hj; exact hj
  have htt : isW (tkAt ts s.k) [trueB] = isT ts s [trueB] := by unfold isT; rw [cur_tk hf]
  have hff : isW (tkAt ts s.k) [falseB] = isT ts s [falseB] := by unfold isT; rw [cur_tk hf]
  have Z := (Below.refl w.heap.size w).alloc (Nat.le_refl _) got0
  have T0 := Lib.hid (h.below Z)
  have HT := Lib.hid (rtok_any (cap := cap) s.k (h.below Z))
  have K0 := Lib.hid (heap_new w got0)
  have ZB := Lib.hid Z
  have HIS := Lib.hid (fun (W : World) (hW : TkW g ts W) => ris_any (cap := cap) s.k notB hW)
  have HIP := Lib.hid (fun (W : World) (hW : TkW g ts W) => ris_any (cap := cap) s.k ⟨#[40]⟩ hW)
  have HTR := Lib.hid (fun (W : World) (hW : TkW g ts W) => ris_any (cap := cap) s.k trueB hW)
  have HFA := Lib.hid (fun (W : World) (hW : TkW g ts W) => ris_any (cap := cap) s.k falseB hW)
  have HN := Lib.hid hN
  have hnum : (cur ts s).kind ≠ 0 → (cur ts s).n ≤ 9223372036854775807 ∧ s.k < ts.length := tk_num h.ok
  have M1 := fun h => more_true (ts := ts) (s := s) N h
  have M2 := fun h => more_false (ts := ts) (s := s) N h
  have M3 := fun h => more_int (ts := ts) (s := s) N h
  have M4 := fun h => more_chr (ts := ts) (s := s) N h
  have M5 := fun h3 h4 hf ht => more_else (ts := ts) (s := s) N h3 h4 hf ht
  have hkt : isT ts s [trueB] = true → (cur ts s).kind ≠ 0 := fun h => by rcases isT_kind h with e | e <;> omega
  have hkf : isT ts s [falseB] = true → (cur ts s).kind ≠ 0 := fun h => by rcases isT_kind h with e | e <;> omega
  rw [hnt] at HIS
  rw [hpt] at HIP
  rw [htt] at HTR
  rw [hff] at HFA
  rw [← cur_tk (ts := ts) hf] at HT
  generalize (if (cur ts s).kind = 1 then N s else (e0, refuseS ts s)) = RN at HN M5
  generalize hRR : (if (cur ts s).kind = 1 then N s else constP ts s) = RR at M1 M2 M3 M4 M5 ⊢
  generalize isT ts s [trueB] = bt at HTR M1 M5 hkt
  generalize isT ts s [falseB] = bf at HFA M2 M5 hkf
  generalize cur ts s = t at HT hnum M3 M4 M5 hkt hkf
  unfold trueB at HTR
  unfold falseB at HFA
  have hstf : (stepS s).f = 0 := hf
  have hstk : (((stepS s).k : Nat) : Int) = (s.k : Int) + 1 := Int.natCast_add s.k 1
  have hMM := Lib.hid (show ((bt = true → RR = _) ∧ (bf = true → RR = _)) ∧ (t.kind = 3 → RR = _) ∧ (t.kind = 4 → RR = _) ∧ (t.kind ≠ 3 → t.kind ≠ 4 → bf = false → bt = false → RR = RN) from ⟨⟨M1, M2⟩, M3, M4, M5⟩)
  have HNU := Lib.hid hnum
  have HKT := Lib.hid hkt
  have HKF := Lib.hid hkf
  clear h Z hi hj hnt hpt htt hff hN hRR M1 M2 M3 M4 M5 hnum hkt hkf
  go_enter Tryz.func86, Tryz.ntmps86
  go_wp2_with fail
  generalize w.alloc _ = W at HT K0 ZB T0 ⊢
  refine HT.out.mono ?_
  rintro e w1 ⟨rfl, b1⟩
  have b1a := b1.alloc b1.size (.cells #[.int .i64 (t.kind : Nat), .string t.text, .int .i64 (t.n : Nat), .bool t.same, .int .i64 (t.pos : Nat), .int .i64 (t.line : Nat), .int .i64 (t.col : Nat)] 50)
  have I1 := Lib.hid (show FxI g ts w1.heap.size t w _ from ⟨ZB.out.trans (b1a.mono ZB.out.size), T0.out.below b1a, (b1a.block _ (heap_lt K0.out)).trans K0.out, heap_new w1 _, Nat.lt_of_lt_of_le (heap_lt K0.out) b1.size⟩)
  generalize hzt : w1.heap.size = zt at I1
  clear HT b1 b1a K0 ZB T0
  unfold tokV tokCells
  go_wp2_with fail
  generalize w1.alloc _ = W1 at I1 ⊢
  refine (HIS.out _ I1.out.tk).mono ?_
  rintro e w2 ⟨rfl, b2⟩
  have I2 := Lib.hid (I1.out.next b2)
  clear I1 b2
  go_wp2_with fail
  refine (HIP.out _ I2.out.tk).mono ?_
  rintro e w3 ⟨rfl, b3⟩
  have I3 := Lib.hid (I2.out.next b3)
  clear I2 b3
  go_wp2_with fail
  refine (HTR.out _ I3.out.tk).mono ?_
  rintro e w4 ⟨rfl, b4⟩
  have I4 := Lib.hid (I3.out.next b4)
  clear I3 b4
  cases bt with
  | true =>
    have hR := hMM.out.1.1 rfl
    have hsl := (HNU.out (HKT.out rfl)).2
    have hw1 : IntKind.i64.wrap ((s.k : Int) + 1) = (((stepS s).k : Nat) : Int) := by rw [IntWalk.i64_in _ (by omega)]; omega
    have k0 := box_cells I4.out.k0
    have f0 : ∀ o, w4.frozen? ⟨w.heap.size, o, none⟩ = false := fun o => by simp [World.frozen?, I4.out.k0]
    go_wp2_with fail
    exact bodyPost_ret (v := gotV 2 1 ⟨#[]⟩ ⟨#[]⟩ none 0 0 (stepS s).k ⟨0, 0, 0, 0⟩) (results_cell (i := 6) (b := w.heap.size) Tryz.results86 Tryz.isAgg56 Tryz.sizeOf56 rfl rfl (s10_heap I4.out.k0 _ _ _ _ _ _ _ _ _ _)) rfl (by
      rw [hR]
      exact ⟨s10_below I4.out.bel _ _ _ _ _ _ _ _ _ _, .inl ⟨hstf, _, _, _, _, _, _, _, rfl, ExAt.leaf _ (by omega) (by omega) (by omega) (by omega) (by decide) (by decide)⟩⟩)
  | false =>
  go_wp2_with fail
  refine (HFA.out _ I4.out.tk).mono ?_
  rintro e w5 ⟨rfl, b5⟩
  have I5 := Lib.hid (I4.out.next b5)
  clear I4 b5
  cases bf with
  | true =>
    have hR := hMM.out.1.2 rfl
    have hsl := (HNU.out (HKF.out rfl)).2
    have hw1 : IntKind.i64.wrap ((s.k : Int) + 1) = (((stepS s).k : Nat) : Int) := by rw [IntWalk.i64_in _ (by omega)]; omega
    have k0 := box_cells I5.out.k0
    have f0 : ∀ o, w5.frozen? ⟨w.heap.size, o, none⟩ = false := fun o => by simp [World.frozen?, I5.out.k0]
    go_wp2_with fail
    exact bodyPost_ret (v := gotV 2 0 ⟨#[]⟩ ⟨#[]⟩ none 0 0 (stepS s).k ⟨0, 0, 0, 0⟩) (results_cell (i := 6) (b := w.heap.size) Tryz.results86 Tryz.isAgg56 Tryz.sizeOf56 rfl rfl (s10_heap I5.out.k0 _ _ _ _ _ _ _ _ _ _)) rfl (by
      rw [hR]
      exact ⟨s10_below I5.out.bel _ _ _ _ _ _ _ _ _ _, .inl ⟨hstf, _, _, _, _, _, _, _, rfl, ExAt.leaf _ (by omega) (by omega) (by omega) (by omega) (by decide) (by decide)⟩⟩)
  | false =>
  have kt := box_cells I5.out.kt
  have k0 := box_cells I5.out.k0
  have f0 : ∀ o, w5.frozen? ⟨w.heap.size, o, none⟩ = false := fun o => by simp [World.frozen?, I5.out.k0]
  cases h3 : ((t.kind : Int) == 3) with
  | true =>
    have h3' : t.kind = 3 := by
      have : (t.kind : Int) = 3 := by simpa using h3
      omega
    have hR := hMM.out.2.1 h3'
    obtain ⟨hnn, hsl⟩ := HNU.out (by omega)
    have hw1 : IntKind.i64.wrap ((s.k : Int) + 1) = (((stepS s).k : Nat) : Int) := by rw [IntWalk.i64_in _ (by omega)]; omega
    clear h3'
    go_wp2_with fail
    exact bodyPost_ret (v := gotV 1 (t.n : Int) ⟨#[]⟩ ⟨#[]⟩ none 0 0 (stepS s).k ⟨0, 0, 0, 0⟩) (results_cell (i := 6) (b := w.heap.size) Tryz.results86 Tryz.isAgg56 Tryz.sizeOf56 rfl rfl (s10_heap I5.out.k0 _ _ _ _ _ _ _ _ _ _)) rfl (by
      rw [hR]
      exact ⟨s10_below I5.out.bel _ _ _ _ _ _ _ _ _ _, .inl ⟨hstf, _, _, _, _, _, _, _, rfl, ExAt.leaf _ (by omega) (by omega) (by omega) (by omega) (by decide) (by decide)⟩⟩)
  | false =>
  have h3' : t.kind ≠ 3 := fun e => by rw [e] at h3; exact absurd h3 (by decide)
  cases h4 : ((t.kind : Int) == 4) with
  | true =>
    have h4' : t.kind = 4 := by
      have : (t.kind : Int) = 4 := by simpa using h4
      omega
    have hR := hMM.out.2.2.1 h4'
    obtain ⟨hnn, hsl⟩ := HNU.out (by omega)
    have hw1 : IntKind.i64.wrap ((s.k : Int) + 1) = (((stepS s).k : Nat) : Int) := by rw [IntWalk.i64_in _ (by omega)]; omega
    clear h4' h3'
    go_wp2_with fail
    exact bodyPost_ret (v := gotV 3 (t.n : Int) ⟨#[]⟩ ⟨#[]⟩ none 0 0 (stepS s).k ⟨0, 0, 0, 0⟩) (results_cell (i := 6) (b := w.heap.size) Tryz.results86 Tryz.isAgg56 Tryz.sizeOf56 rfl rfl (s10_heap I5.out.k0 _ _ _ _ _ _ _ _ _ _)) rfl (by
      rw [hR]
      exact ⟨s10_below I5.out.bel _ _ _ _ _ _ _ _ _ _, .inl ⟨hstf, _, _, _, _, _, _, _, rfl, ExAt.leaf _ (by omega) (by omega) (by omega) (by omega) (by decide) (by decide)⟩⟩)
  | false =>
  have h4' : t.kind ≠ 4 := fun e => by rw [e] at h4; exact absurd h4 (by decide)
  have hR := Lib.hid (hMM.out.2.2.2 h3' h4' (by trivial) (by trivial))
  clear hMM HNU HKT HKF h3' h4'
  go_wp2_with fail
  refine (HN.out _ I5.out.tk).mono ?_
  rintro e w6 ⟨b6, ⟨hRf, op, nn, nm, fd, a, len, c, rfl, hx⟩ | ⟨hRf, rfl⟩⟩
  · have I6 := Lib.hid (I5.out.next b6)
    have X6 := Lib.hid hx
    have z0 := heap_lt I5.out.k0
    have k0' := box_cells I6.out.k0
    have f0' : ∀ o, w6.frozen? ⟨w.heap.size, o, none⟩ = false := fun o => by simp [World.frozen?, I6.out.k0]
    clear hx b6 k0 f0 kt
    unfold gotV
    go_wp2_with fail
    exact bodyPost_ret (v := gotV op nn nm fd a len c RN.2.k ⟨0, 0, 0, 0⟩) (results_cell (i := 6) (b := w.heap.size) Tryz.results86 Tryz.isAgg56 Tryz.sizeOf56 rfl rfl (s10_heap I6.out.k0 _ _ _ _ _ _ _ _ _ _)) rfl (by
      rw [hR.out]
      exact ⟨s10_below I6.out.bel _ _ _ _ _ _ _ _ _ _, .inl ⟨hRf, _, _, _, _, _, _, _, rfl, X6.out.sub ((s10_sub (P := fun k => k < w5.heap.size) z0 _ _ _ _ _ _ _ _ _ _).trans (mk_weak _ fun k hk => Nat.lt_trans hk z0))⟩⟩)
  · have I6 := Lib.hid (I5.out.next b6)
    have k0' := box_cells I6.out.k0
    have f0' : ∀ o, w6.frozen? ⟨w.heap.size, o, none⟩ = false := fun o => by simp [World.frozen?, I6.out.k0]
    clear b6 k0 f0 kt
    unfold gotN gotV faultD
    go_wp2_with fail
    exact bodyPost_ret (v := gotN (faultD RN.2)) (results_cell (i := 6) (b := w.heap.size) Tryz.results86 Tryz.isAgg56 Tryz.sizeOf56 rfl rfl (s10_heap I6.out.k0 _ _ _ _ _ _ _ _ _ _)) rfl (by
      rw [hR.out]
      exact ⟨s10_below I6.out.bel _ _ _ _ _ _ _ _ _ _, .inr ⟨hRf, rfl⟩⟩)
end Go.Proofs.YtpcldpnaljheoaaGreatDoor
