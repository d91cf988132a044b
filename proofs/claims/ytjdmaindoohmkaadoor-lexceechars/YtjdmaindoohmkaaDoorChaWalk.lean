/-
  LexCeeChars, walked.
-/
import Derived.Test.YtjdmaindoohmkaaDoorTxw
namespace Go.Proofs.YtjdmaindoohmkaaDoor
open Go.RowKit Go.Sort

theorem char_pos (n : Nat) : 1 ≤ (charL n).length := by
  unfold charL
  split
  · simp
  · split <;> simp
/-- A char by itself. -/
theorem lex_char (n : Nat) (hn : n ≤ 255) : ∃ t1 t2, lexAll ⟨(charL n).toArray⟩ = ⟨0, 0, [t1, t2]⟩ ∧ t1.kind = 4 ∧ t1.n = n := by
  obtain ⟨ht, r, hr⟩ := char_text n hn []
  rw [List.append_nil] at ht
  have hlen := char_len n
  have hp := char_pos n
  have hsz : (ByteArray.mk (charL n).toArray).size = (charL n).length := by have := len_size (ByteArray.mk (charL n).toArray); simpa using this.symm
  have e0 : (ByteArray.mk (charL n).toArray).data.toList = charL n := rfl
  have hb0 : blEnd ⟨(charL n).toArray⟩ 0 = 0 := by
    unfold blEnd
    rw [e0, List.drop_zero, hr, List.takeWhile_cons, if_neg (by decide)]; rfl
  have hf0 : fdAt ⟨(charL n).toArray⟩ 0 = ⟨4, [], n, (charL n).length, 0⟩ := by
    unfold fdAt
    rw [e0, List.drop_zero, ht]
  have hb1 : blEnd ⟨(charL n).toArray⟩ (0 + (charL n).length) = (charL n).length := by
    unfold blEnd
    rw [e0, Nat.zero_add, List.drop_length]; rfl
  have hf1 : fdAt ⟨(charL n).toArray⟩ (charL n).length = bad 0 := fd_end _ _ (by omega)
  generalize hT : (ByteArray.mk (charL n).toArray) = T at *
  generalize (charL n).length = m at *
  obtain ⟨k, rfl⟩ : ∃ k, m = k + 1 := ⟨m - 1, by omega⟩
  refine ⟨mkT T ⟨4, [], n, k + 1, 0⟩ 0 (-1), mkT T (bad 0) (k + 1) (lineOf T (0 + (k + 1))), ?_, rfl, rfl⟩
  unfold lexAll
  rw [if_neg (by omega), hsz, lexN_succ, hb0, hf0, if_neg (by simp), if_neg (by simp), lexN_succ, hb1, hf1, if_neg (by decide), if_pos (by rfl)]
  rfl
theorem bl_ne : ∀ (m : Nat) (l : List UInt8) (p : Nat), 0 < m → (bl m l p).code = 0 → (bl m l p).toks ≠ [] := by
  intro m l p hm hc
  obtain ⟨m, rfl⟩ : ∃ k, m = k + 1 := ⟨m - 1, by omega⟩
  by_cases he : (tokL (l.dropWhile isBl)).err = 0
  · by_cases hk : (tokL (l.dropWhile isBl)).kind = 0
    · rw [bl_end he hk]; simp
    · by_cases hr : (bl m ((l.dropWhile isBl).drop (tokL (l.dropWhile isBl)).used) (p + (l.takeWhile isBl).length + (tokL (l.dropWhile isBl)).used)).code = 0
      · rw [bl_tok he hk hr]; simp
      · rw [bl_bad he hk hr] at hc; exact absurd hc hr
  · rw [bl_err he] at hc; exact absurd hc he
/-- A char with a blank and whatever behind it. -/
theorem lex_char_b (n : Nat) (hn : n ≤ 255) (u : ByteArray) (x : List UInt8) (hu : u.data.toList = charL n ++ 32 :: x) (hz : u.size ≤ 65536) (hc : (lexAll u).code = 0) :
    ∃ t1 r, (lexAll u).toks = t1 :: r ∧ r ≠ [] ∧ t1.n = n := by
  obtain ⟨ht, r, hr⟩ := char_text n hn (32 :: x)
  obtain ⟨u1, u2, u3⟩ := lex_bl u hz
  have hs : 1 ≤ u.size := by rw [← len_size u, hu, List.length_append]; have := char_pos n; omega
  have hcb := u1.symm.trans hc
  have e2 : (charL n ++ 32 :: x).dropWhile isBl = charL n ++ 32 :: x := by rw [hr, List.cons_append, List.dropWhile_cons, if_neg (by decide)]
  have hst := bl_step (M := u.size) (p := 0) (L := u.data.toList) (f := ⟨4, [], n, (charL n).length, 0⟩) (D := 32 :: x) (n := (u.data.toList.takeWhile isBl).length) (by rw [hu, e2]; exact ht) rfl (by rw [hu, e2]; exact List.drop_left) rfl (by simp)
  rw [hst] at hcb
  have h3 := u3 hc
  rw [hst] at h3
  split at hcb
  · rename_i hbad; exact absurd hcb hbad
  · rename_i hgood
    rw [if_neg hgood] at h3
    have hne := bl_ne _ _ _ hs (Decidable.not_not.1 hgood)
    cases hT : (lexAll u).toks with
    | nil => rw [hT] at h3; simp at h3
    | cons t1 q =>
      rw [hT, List.map_cons] at h3
      obtain ⟨h4, h5⟩ := List.cons.inj h3
      refine ⟨t1, q, rfl, ?_, ?_⟩
      · rintro rfl
        exact hne h5.symm
      · have := congrArg Tk.n h4
        exact this
set_option maxRecDepth 100000 in
set_option maxHeartbeats 4000000 in
theorem lexCeeChars_walk (n : Nat) (hn : n ≤ 255) (x : ByteArray) (w : World) (hv : VarOk w) : Calls Tryd.prog 9 #[.int .u8 (n : Int), .string x] w fun e w' => e = .returned (.bool true) ∧ Below w.heap.size w w' := by
  obtain ⟨t1, t2, hl, hk1, hn1⟩ := lex_char n hn
  have hlen := char_len n
  have hsz : (ByteArray.mk (charL n).toArray).size = (charL n).length := ba_len _
  have h0 : (0 : Int) ≤ (n : Int) := by omega
  have h1 : (n : Int) ≤ 255 := by omega
  have hw64 : IntKind.i64.wrap (n : Int) = (n : Int) := IntWalk.i64_in _ (by omega)
  have HCT := Lib.hid fun w1 => charText_any n w1 hn
  have HLB := Lib.hid fun u x hu hz hc => lex_char_b n hn u x hu hz hc
  have HV := Lib.hid hv
  generalize hT : ByteArray.mk (charL n).toArray = T at HCT hl hsz
  have HTL := Lib.hid (show T.data.toList = charL n by rw [← hT])
  have hTz : T.size ≤ 6 := by omega
  have HL := Lib.hid hl
  clear hv hl hT hsz hlen
  go_enter Tryd.func9, Tryd.ntmps9
  go_wp2_with fail
  refine (HCT.out _).mono ?_
  rintro e w1 ⟨rfl, b1⟩
  have B1 := Lib.hid b1
  clear b1
  go_wp2_with fail
  refine (lex_any T _ (HV.out.below B1.out)).mono ?_
  unfold LexPost diagV
  rw [HL.out]
  rintro e w2 ⟨v, rfl, o2, b2⟩
  have B2 := Lib.hid (B1.out.trans (b2.mono B1.out.size))
  rcases o2.slice with ⟨_, h⟩ | ⟨g, cap, hvv, hg, hgl, hnc, hm, hc⟩
  · cases h
  · have hvv : v = .slice (some ⟨g, 0, none⟩) 2 cap := hvv
    subst hvv
    have hcap : 2 ≤ cap := hnc
    have q0 : w2.cell? ⟨g, 0, none⟩ = some (.int .i64 4) := by have := hc 0 t1 rfl 0 _ rfl; rw [hk1] at this; exact this
    have q2 : w2.cell? ⟨g, 2, none⟩ = some (.int .i64 (n : Int)) := by have := hc 0 t1 rfl 2 _ rfl; rw [hn1] at this; exact this
    have l0 : lineOf T 0 = 0 := line_zero _
    have k0 : colOf T 0 = 0 := col_zero _
    have dn : ((n : Int) != (n : Int)) = false := by simp
    clear hc o2 b2 hnc hg hk1 hn1 HL
    by_cases hx : 3000 < x.size
    · have d : decide ((3000 : Int) < (x.size : Int)) = true := by simp; omega
      go_wp2_with fail
      refine (awake_any _ (HV.out.below (B2.out.alloc B2.out.size _))).mono ?_
      rintro e w3 ⟨rfl, b3⟩
      have B3 := Lib.hid ((B2.out.alloc B2.out.size (.cells #[.int .i64 0, .int .i64 0, .int .i64 0, .int .i64 0] 28)).trans (b3.mono (B2.out.alloc B2.out.size (.cells #[.int .i64 0, .int .i64 0, .int .i64 0, .int .i64 0] 28)).size))
      clear b3
      go_wp2_with fail
      go_ret
      exact ⟨rfl, B3.out⟩
    · have d : decide ((3000 : Int) < (x.size : Int)) = false := by simp; omega
      obtain ⟨u, hu⟩ : ∃ u, u = T ++ ⟨#[32]⟩ ++ x := ⟨_, rfl⟩
      have hul : u.data.toList = charL n ++ 32 :: x.data.toList := by rw [hu, ← HTL.out]; simp
      have hus : u.size = T.size + 1 + x.size := by
        have e := congrArg List.length hul
        rw [len_size, List.length_append, List.length_cons, len_size, ← HTL.out, len_size] at e
        omega
      have hLB := fun hz hc => HLB.out u x.data.toList hul hz hc
      have HU := Lib.hid hu
      generalize hR : lexAll u = R at hLB
      have HR := Lib.hid hR
      have HLB2 := Lib.hid hLB
      have hu4 : u.size ≤ 4000 := by omega
      clear hu hul hus hLB hR
      go_wp2_with fail
      rw [← HU.out]
      have B3 := Lib.hid (B2.out.alloc B2.out.size (.cells #[.int .i64 0, .int .i64 0, .int .i64 0, .int .i64 0] 28))
      generalize w2.alloc (.cells #[.int .i64 0, .int .i64 0, .int .i64 0, .int .i64 0] 28) = w3 at B3 ⊢
      refine (lex_any u _ (HV.out.below B3.out)).mono ?_
      unfold LexPost diagV
      rw [HR.out]
      rintro e w4 ⟨vm, rfl, o4, b4⟩
      have B4 := Lib.hid (B3.out.trans (b4.mono B3.out.size))
      have O4 := Lib.hid o4
      clear b4 o4 q0 q2
      by_cases hcode : R.code = 0
      · obtain ⟨t3, q, hq, hqn, htn⟩ := HLB2.out (by omega) hcode
        have d1 : ((R.code : Int) != 0) = false := by rw [hcode]; rfl
        rcases O4.out.slice with ⟨_, h⟩ | ⟨g2, cap2, hvv, hg2, hgl2, hnc2, hm2, hc2⟩
        · rw [hq] at h; cases h
        · have q4 : w4.cell? ⟨g2, 2, none⟩ = some (.int .i64 (n : Int)) := by have := hc2 0 t3 (by rw [hq]; rfl) 2 _ rfl; rw [htn] at this; exact this
          have hL2 : 2 ≤ R.toks.length := by rw [hq]; cases q with | nil => exact absurd rfl hqn | cons _ _ => simp
          subst hvv
          generalize R.toks.length = N at hL2 hnc2 ⊢
          have d2 : decide ((1 : Int) < (N : Int)) = true := by simp; omega
          have d2' : decide (1 < N) = true := by simp; omega
          have hN1 : (1 : Int) < (N : Int) := by omega
          have hN0 : (0 : Int) < (N : Int) := by omega
          have dn2 : ((n : Int) == (n : Int)) = true := by simp
          clear hc2 hq hqn htn hcode O4 HLB2 hg2
          go_wp2_with fail
          refine (awake_any _ (HV.out.below (B4.out.alloc B4.out.size _))).mono ?_
          rintro e w5 ⟨rfl, b5⟩
          have B5 := Lib.hid ((B4.out.alloc B4.out.size (.cells #[.int .i64 (R.code : Nat), .int .i64 (R.pos : Nat), .int .i64 (lineOf u R.pos : Nat), .int .i64 (colOf u R.pos : Nat)] 28)).trans (b5.mono (B4.out.alloc B4.out.size (.cells #[.int .i64 (R.code : Nat), .int .i64 (R.pos : Nat), .int .i64 (lineOf u R.pos : Nat), .int .i64 (colOf u R.pos : Nat)] 28)).size))
          clear b5
          go_wp2_with fail
          go_ret
          exact ⟨rfl, B5.out⟩
      · have d1 : ((R.code : Int) != 0) = true := by simp; omega
        clear hcode O4 HLB2
        go_wp2_with fail
        refine (awake_any _ (HV.out.below (B4.out.alloc B4.out.size _))).mono ?_
        rintro e w5 ⟨rfl, b5⟩
        have B5 := Lib.hid ((B4.out.alloc B4.out.size (.cells #[.int .i64 (R.code : Nat), .int .i64 (R.pos : Nat), .int .i64 (lineOf u R.pos : Nat), .int .i64 (colOf u R.pos : Nat)] 28)).trans (b5.mono (B4.out.alloc B4.out.size (.cells #[.int .i64 (R.code : Nat), .int .i64 (R.pos : Nat), .int .i64 (lineOf u R.pos : Nat), .int .i64 (colOf u R.pos : Nat)] 28)).size))
        clear b5
        go_wp2_with fail
        go_ret
        exact ⟨rfl, B5.out⟩
end Go.Proofs.YtjdmaindoohmkaaDoor
