/-
  ExprPasWhole: of every text and every number the law returns true, and what was handed in reads as it did. Conditions: the row's own (the listed tables of Go's library and of the program hold what their initialisers lay, which the card ties to the program's text).
-/
import Derived.Test.YtpcldpnaljheoaaGreatDoorZzEnd
namespace Go.Proofs.YtpcldpnaljheoaaGreatDoor
open Go.RowKit Go.Deep

theorem lexN_pos (s : ByteArray) : ∀ (m k : Nat) (last : Int) (acc : List X.P.Tk), k ≤ s.size → ∀ t ∈ (X.P.lexN s m k last acc).toks, t ∈ acc ∨ t.pos ≤ s.size
  | 0, _, _, _, _, t, ht => by simp [X.P.lexN] at ht
  | m + 1, k, last, acc, hk, t, ht => by
    have hb := X.P.blEnd_bd s k hk
    rw [X.P.lexN_succ] at ht
    by_cases he : (X.P.fdAt s (X.P.blEnd s k)).err ≠ 0
    · rw [if_pos he] at ht; simp at ht
    · rw [if_neg he] at ht
      by_cases hz : (X.P.fdAt s (X.P.blEnd s k)).kind = 0
      · rw [if_pos hz] at ht
        rcases List.mem_append.1 ht with g | g
        · exact .inl g
        · rw [List.mem_singleton.1 g]; exact .inr hb.2
      · rw [if_neg hz] at ht
        have hlt : X.P.blEnd s k < s.size := by
          rcases Nat.lt_or_ge (X.P.blEnd s k) s.size with g | g
          · exact g
          · rw [X.P.fd_end s _ (by omega)] at hz
            exact absurd rfl hz
        obtain ⟨u1, u2, _⟩ := fd_all s _ hlt (by omega)
        rcases lexN_pos s m _ _ _ u2 t ht with g | g
        · rcases List.mem_append.1 g with g | g
          · exact .inl g
          · rw [List.mem_singleton.1 g]; exact .inr hb.2
        · exact .inr g
theorem lex_pos {s : ByteArray} {t : X.P.Tk} (h : t ∈ (X.P.lexAll s).toks) : t.pos ≤ s.size := by
  unfold X.P.lexAll at h
  by_cases hs : 65536 < s.size
  · rw [if_pos hs] at h; simp at h
  · rw [if_neg hs] at h
    rcases lexN_pos s _ 0 (-1) [] (Nat.zero_le _) t h with g | g
    · simp at g
    · exact g
set_option maxRecDepth 100000 in
set_option maxHeartbeats 4000000 in
theorem whole_any (s : ByteArray) (hsz : s.size ≤ maxLen) (cut : Int) (hc0 : -9223372036854775808 ≤ cut) (hc1 : cut ≤ 9223372036854775807) (w : World) (hG : Gt w) :
    Calls Tryz.prog 8 #[.string s, .int .i64 cut] w fun e w' => e = .returned (.bool true) ∧ Below w.heap.size w w' := by
  have HG := Lib.hid hG
  have hsl : s.size ≤ 9223372036854775807 := by unfold maxLen at hsz; omega
  have HA := Lib.hid (X.P.refAll3 s w)
  unfold X.P.ToksB at HA
  clear hG hsz
  go_enter Tryz.func8, Tryz.ntmps8
  go_wp2_with fail
  refine HA.out.mono ?_
  rintro e w1 ⟨v, rfl, o1, b1⟩
  have hds : X.P.diagV s (X.P.lexAll s) = .agg #[.int .i64 ((lexD s).c : Nat), .int .i64 ((lexD s).p : Nat), .int .i64 ((lexD s).l : Nat), .int .i64 ((lexD s).k : Nat)] := rfl
  rw [hds]
  have hcode : (X.P.lexAll s).code = (lexD s).c := rfl
  have HCD := Lib.hid hcode
  have OT := Lib.hid o1
  have n1 := (Below.refl w1.heap.size w1).alloc (Nat.le_refl _) (.cells #[.int .i64 ((lexD s).c : Nat), .int .i64 ((lexD s).p : Nat), .int .i64 ((lexD s).l : Nat), .int .i64 ((lexD s).k : Nat)] 30)
  have B1 := Lib.hid b1
  have B2 := Lib.hid (b1.trans (n1.mono b1.size))
  clear hds hcode n1 o1 b1 HA
  generalize lexD s = LD at *
  have K1 := Lib.hid (heap_new w1 (.cells #[.int .i64 (LD.c : Nat), .int .i64 (LD.p : Nat), .int .i64 (LD.l : Nat), .int .i64 (LD.k : Nat)] 30))
  by_cases hbig : 5000 < s.size
  · have d1 : decide ((s.size : Int) > 5000) = true := by simp; omega
    have d2 : decide (5000 < s.size) = true := by simp; omega
    have AW := Lib.hid (awake_any _ (HG.out.below B2.out))
    clear hbig
    go_wp2_with fail
    refine AW.out.mono ?_
    rintro e w3 ⟨rfl, b3⟩
    have B3 := Lib.hid (B2.out.trans (b3.mono B2.out.size))
    clear b3
    go_wp2_with fail
    go_ret
    exact ⟨rfl, B3.out⟩
  · have d1 : decide ((s.size : Int) > 5000) = false := by simp; omega
    have d2 : decide (5000 < s.size) = false := by simp; omega
    by_cases hlc : LD.c = 0
    · have d3 : ((LD.c : Int) != 0) = false := by simp [hlc]
      have hcc : (X.P.lexAll s).code = 0 := HCD.out.trans hlc
      obtain ⟨g, cap, rfl, hgb, tk⟩ := toks_at OT.out hcc
      have hok := tks_ok hcc
      have hn1 : 1 ≤ (tksOf s).length := List.length_pos_iff.2 hok.ne
      have hn2 := hok.len
      have gl : ((tksOf s).length : Int) ≤ 9223372036854775807 := by omega
      obtain ⟨k, hk, hp⟩ := pick_at cut (tksOf s).length (w1.alloc (.cells #[.int .i64 (LD.c : Nat), .int .i64 (LD.p : Nat), .int .i64 (LD.l : Nat), .int .i64 (LD.k : Nat)] 30)) hc0 hc1 hn1 (by omega)
      have HPK := Lib.hid hp
      obtain ⟨t, ht⟩ : ∃ t, (tksOf s)[k]? = some t := ⟨_, List.getElem?_eq_getElem hk⟩
      have htp : t.pos ≤ s.size := by
        have h1 := List.mem_of_getElem? ht
        unfold tksOf at h1
        obtain ⟨u, hu, rfl⟩ := List.mem_map.1 h1
        exact lex_pos hu
      have c4 : (w1.alloc (.cells #[.int .i64 (LD.c : Nat), .int .i64 (LD.p : Nat), .int .i64 (LD.l : Nat), .int .i64 (LD.k : Nat)] 30)).cell? ⟨g, k * 7 + 4, none⟩ = some (.int .i64 (t.pos : Nat)) := by
        have n1 := (Below.refl w1.heap.size w1).alloc (Nat.le_refl _) (.cells #[.int .i64 (LD.c : Nat), .int .i64 (LD.p : Nat), .int .i64 (LD.l : Nat), .int .i64 (LD.k : Nat)] 30)
        exact (tk.kept n1.size (n1.block _ tk.lt)).c ht 4 (by decide)
      have hgl : g < (w1.alloc (.cells #[.int .i64 (LD.c : Nat), .int .i64 (LD.p : Nat), .int .i64 (LD.l : Nat), .int .i64 (LD.k : Nat)] 30)).heap.size := by have := tk.lt; simp; omega
      have i0 : (0 : Int) ≤ (k : Int) := by omega
      have i1 : (k : Int) < ((tksOf s).length : Int) := by omega
      have j0 : (0 : Int) ≤ (t.pos : Int) := by omega
      have j1 : (t.pos : Int) ≤ (s.size : Int) := by omega
      have j2 : ¬ 9223372036854775807 < t.pos + 2 := by omega
      clear hbig hcc hok tk hp ht OT HCD hgb hlc
      generalize (tksOf s).length = n at *
      generalize t.pos = pos at *
      go_wp2_with fail
      refine HPK.out.mono ?_
      rintro e w2 ⟨rfl, rfl⟩
      go_wp2_with fail
      have hbad := star_bad (s := s.extract 0 pos ++ ⟨#[32, 42]⟩) (v := (s.extract 0 pos).data.toList ++ [32]) (by simp)
      generalize s.extract 0 pos ++ ⟨#[32, 42]⟩ = u at hbad ⊢
      have GA := Lib.hid (HG.out.below B2.out)
      have HB := Lib.hid hbad
      clear hbad c4 HPK
      refine (Read_any u _ GA.out).mono ?_
      rintro e w3 ⟨b3, h3⟩
      rcases h3 with ⟨_, rfl⟩ | ⟨h3, _⟩
      · have B3 := Lib.hid (B2.out.trans (b3.mono B2.out.size))
        generalize redD u = RD at HB ⊢
        have hb0 := HB.out
        have d5 : ((RD.c : Int) != 0) = true := by simp [hb0]
        have Z1 := (Below.refl w3.heap.size w3).alloc (Nat.le_refl _) (.cells #[.int .i64 0, .int .i64 0, .string ⟨#[]⟩, .string ⟨#[]⟩, .slice none 0 0] 25)
        have Z2 := Z1.alloc Z1.size (.cells #[.int .i64 (RD.c : Nat), .int .i64 (RD.p : Nat), .int .i64 (RD.l : Nat), .int .i64 (RD.k : Nat)] 30)
        have AW := Lib.hid (awake_any _ (HG.out.below (B3.out.trans (Z2.mono B3.out.size))))
        have B4 := Lib.hid (B3.out.trans (Z2.mono B3.out.size))
        clear b3 hb0 Z1 Z2
        unfold dgV noB
        go_wp2_with fail
        refine AW.out.mono ?_
        rintro e w5 ⟨rfl, b5⟩
        have B5 := Lib.hid (B4.out.trans (b5.mono B4.out.size))
        clear b5
        go_wp2_with fail
        go_ret
        exact ⟨rfl, B5.out⟩
      · exact absurd h3 HB.out
    · have d3 : ((LD.c : Int) != 0) = true := by simp [hlc]
      have AW := Lib.hid (awake_any _ (HG.out.below B2.out))
      clear hbig
      go_wp2_with fail
      refine AW.out.mono ?_
      rintro e w3 ⟨rfl, b3⟩
      have B3 := Lib.hid (B2.out.trans (b3.mono B2.out.size))
      clear b3
      go_wp2_with fail
      go_ret
      exact ⟨rfl, B3.out⟩
end Go.Proofs.YtpcldpnaljheoaaGreatDoor
namespace Go.Proofs.YtpcldpnaljheoaaGreatDoor.exprPasWhole
open Go.ChangeShapes Go.WideShapes Go.ChangeAt Go.RowKit
open Go.ChangeMaps (open_string shut_string)
set_option linter.unusedVariables false

theorem laid_met (os : Os) : laidMet Tryz.prog Rows.exprPasWholeRow.laid ((laidWorld os).forCall (fun _ _ => 0) ⟨#[], #[.string ⟨#[]⟩, .int .i64 0], []⟩).memory := laid_all os _
theorem reads (os : Os) {H : Type} (enc : TypeId × Value → H) : ∃ places, DataW.whole enc Tryz.prog ((laidWorld os).forCall (fun _ _ => 0) ⟨#[], #[.string ⟨#[]⟩, .int .i64 0], []⟩).memory Tryz.f8.params.toList Rows.exprPasWholeSpec.vars false (#[.string ⟨#[]⟩, .int .i64 0] : Array Value).toList 8 = some ([.lit (.string []), .lit (.int .i64 0)], [], places) :=
  ⟨[], by kernel_rfl⟩

set_option maxRecDepth 100000 in
theorem lifted (os : Os) (started : os.Started) (H : Type) (enc : TypeId × Value → H) (F : Stop.Interp) :
    ReturnsInHanded {} Tryz.checked os 8 .any ((OpenSpec.ofChange Rows.exprPasWholeSpec).preRow enc Tryz.prog Tryz.f8 Rows.exprPasWholeRow.domain false Rows.exprPasWholeRow.laid) (((OpenSpec.ofChange Rows.exprPasWholeSpec).at F).post enc Tryz.prog Tryz.f8 false true false false) := by
  obtain ⟨places, hx⟩ := reads os enc
  refine returnsInHanded_of_row (C := Tryz.checked) (s := OpenSpec.ofChange Rows.exprPasWholeSpec) own started (by kernel_rfl) Tryz.func8
    (fits (enc := enc) #[.string ⟨#[]⟩, .int .i64 0] (by kernel_rfl)
      (OpenSpec.preRow_of_cond 8 hx (by kernel_rfl) (fun k hk => by cases hk) (by kernel_rfl) (laid_met os))) ?_
  intro W base args ds gs before hval hW _ hcond _ hL _ _
  have hW' := hW
  obtain ⟨p, q, hA0, hV, rfl, hfz, hnd⟩ := hW
  have hA : DataW.TrodAll enc Tryz.prog W 0 (fun _ => true) true Tryz.f8.params.toList args.toList ds p := hA0
  rw [Tryz.params8] at hA hval
  obtain ⟨v0, vs0, d0, ds0, p0, q0, hargs, rfl, rfl, h0, r0⟩ := trodAll_cons hA
  obtain ⟨v1, vs1, d1, ds1, p1, q1, rfl, rfl, rfl, h1, r1⟩ := trodAll_cons r0
  obtain ⟨rfl, rfl, rfl⟩ := trodAll_nil r1
  obtain rfl : args = #[v0, v1] := by cases args; simp_all
  obtain ⟨rfl, rfl⟩ := trodVars_none hV
  have k0 := h0
  have lt0 : ∀ x ∈ p0, x.block < W.heap.size := by obtain ⟨m, hm⟩ := k0; exact DataW.trod_lt m _ _ _ hm
  have k1 := h1
  have lt1 : ∀ x ∈ p1, x.block < W.heap.size := by obtain ⟨m, hm⟩ := k1; exact DataW.trod_lt m _ _ _ hm
  obtain ⟨s, rfl, rfl, rfl, hs⟩ := open_string Tryz.underlying9 (hval 0 9 v0 rfl rfl) h0
  obtain ⟨cut, rfl, rfl, rfl, wcut⟩ := open_int Tryz.underlying3 (hval 1 3 v1 rfl rfl) h1
  have bdcut := bounds_i64 wcut
  clear hA0
  refine (whole_any s hs cut (by omega) (by omega) W (gt_of hL)).mono fun e W' ⟨he, bel⟩ => ?_
  subst he
  exact ⟨_, rfl, _, _, _, [], _, [], hW', trodAll_mk1 (shut_bool Tryz.underlying4 _), (trodAll_cons_mk (Below.trod laidOut (by kernel_rfl) (of_decide_eq_true (by kernel_rfl)) k0 bel lt0) (trodAll_cons_mk (Below.trod laidOut (by kernel_rfl) (of_decide_eq_true (by kernel_rfl)) k1 bel lt1) trodAll_mk0)), rfl, bel.frame _, fun h => by cases h⟩

theorem said : Rows.ExprPasWholeSaid :=
  OpenClaim.holds_of_cond 8 Tryz.f8 rfl rfl rfl rfl rfl rfl rfl ⟨rfl, rfl, rfl, rfl, rfl⟩ rfl rfl rfl rfl rfl (by kernel_rfl) Tryz.func8 (by kernel_rfl)
    (of_decide_eq_true (by kernel_rfl)) (by unfold Func.isWrapper; first | (rw [if_pos (by decide +kernel)]; kernel_rfl) | (rw [if_neg (by decide +kernel)]; exact ⟨rfl, rfl⟩))
    (fun os started H enc _ F => by rw [OpenClaim.pre_eq_preRow]; exact lifted os started H enc F)

theorem plain (f : FuncId) (fn : Func) (hf : Tryz.pinned.checked.prog.funcNamed "pantograph/pantographlaw08.ExprPasWhole" = some f) (hfn : Tryz.pinned.checked.prog.funcs[f]? = some fn) :
    false = Tryz.pinned.checked.prog.looks [] ∧ ∀ (j : Nat) t, fn.params[j]? = some t → Tryz.pinned.checked.prog.wantsStandIn t = false := by
  obtain rfl : f = 8 := Option.some.inj ((show Tryz.prog.funcNamed "pantograph/pantographlaw08.ExprPasWhole" = some 8 by kernel_rfl).symm.trans hf) |>.symm
  obtain rfl : fn = Tryz.f8 := (Option.some.inj (Tryz.func8.symm.trans hfn)).symm
  refine ⟨by kernel_rfl, fun j t ht => ?_⟩
  rw [Tryz.params8] at ht
  have hm : t = 9 ∨ t = 3 := by simpa using Array.mem_of_getElem? ht
  rcases hm with rfl | rfl
  · exact (show Tryz.prog.wantsStandIn 9 = false by kernel_rfl)
  · exact (show Tryz.prog.wantsStandIn 3 = false by kernel_rfl)

theorem card : Rows.ExprPasWholeCardSaid :=
  Claim7.holds_tied_plain_at .later [] _ _ _ _ said (fun _ h => by cases h) (by kernel_rfl) (fun _ h => by cases h) exprPasWhole_row_tie rfl ⟨rfl, rfl⟩ (by kernel_rfl) rfl plain (by kernel_rfl)
end Go.Proofs.YtpcldpnaljheoaaGreatDoor.exprPasWhole

namespace Go.Proofs.YtpcldpnaljheoaaGreatDoor
theorem exprPasWhole_holds : Rows.ExprPasWholeCardSaid := exprPasWhole.card
end Go.Proofs.YtpcldpnaljheoaaGreatDoor
