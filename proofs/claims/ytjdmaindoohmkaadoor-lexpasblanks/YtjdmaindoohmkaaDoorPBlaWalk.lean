/-
  LexPasBlanks, walked.
-/
import Derived.Test.YtjdmaindoohmkaaDoorPTxw
import Derived.Test.YtjdmaindoohmkaaDoorPBar
namespace Go.Proofs.YtjdmaindoohmkaaDoor.P
open Go.RowKit Go.Sort

/-- A list of bytes that came in. -/
def IsBytes (w : World) (a : Option Addr) (len cap : Nat) (bs : List Int) : Prop :=
  bs.length = len ∧ len ≤ cap ∧ cap ≤ maxLen ∧ (∀ x ∈ bs, 0 ≤ x ∧ x ≤ 255) ∧ (len = 0 ∨ ∃ b o, a = some ⟨b, o, none⟩ ∧ b < w.heap.size ∧ ∀ j x, bs[j]? = some x → w.cell? ⟨b, o + j, none⟩ = some (.int .u8 x))
theorem IsBytes.below {w w' : World} {a : Option Addr} {len cap : Nat} {bs : List Int} (h : IsBytes w a len cap bs) (hb : Below w.heap.size w w') : IsBytes w' a len cap bs := by
  obtain ⟨h1, h2, h3, h4, h5⟩ := h
  refine ⟨h1, h2, h3, h4, ?_⟩
  rcases h5 with h5 | ⟨b, o, e, hl, hc⟩
  · exact .inl h5
  · exact .inr ⟨b, o, e, Nat.lt_of_lt_of_le hl hb.size, fun j x hx => (hb.cell (p := ⟨b, o + j, none⟩) hl).trans (hc j x hx)⟩
theorem IsBytes.at {w : World} {a : Option Addr} {len cap : Nat} {bs : List Int} (h : IsBytes w a len cap bs) {k : Nat} (hk : k < len) : ∃ b o x, a = some ⟨b, o, none⟩ ∧ b < w.heap.size ∧ bs[k]? = some x ∧ 0 ≤ x ∧ x ≤ 255 ∧ w.cell? ⟨b, o + k, none⟩ = some (.int .u8 x) := by
  obtain ⟨h1, h2, h3, h4, h5⟩ := h
  obtain ⟨x, hx⟩ : ∃ x, bs[k]? = some x := ⟨bs[k]'(by omega), List.getElem?_eq_getElem _⟩
  rcases h5 with h5 | ⟨b, o, rfl, hl, hc⟩
  · omega
  · have := h4 x (List.mem_of_getElem? hx)
    exact ⟨b, o, x, rfl, hl, hx, this.1, this.2, hc k x hx⟩
def bkOf : Nat → List UInt8
  | 0 => [32]
  | 1 => [10]
  | 2 => [9]
  | 3 => [13]
  | _ => [32, 32, 10, 32]
/-- The blanks ahead of the token i. -/
def bsF (bs : List Int) (i : Nat) : List UInt8 := if i < bs.length then bkOf ((bs.getD i 0) % 5).toNat else [32]
theorem bk_ok (n : Nat) : (∀ c ∈ bkOf n, isBl c = true) ∧ bkOf n ≠ [] ∧ (bkOf n).length ≤ 4 := by
  match n with
  | 0 => decide
  | 1 => decide
  | 2 => decide
  | 3 => decide
  | n + 4 => exact (by decide : (∀ c ∈ ([32, 32, 10, 32] : List UInt8), isBl c = true) ∧ ([32, 32, 10, 32] : List UInt8) ≠ [] ∧ ([32, 32, 10, 32] : List UInt8).length ≤ 4)
theorem bsF_ok (bs : List Int) : BlankF (bsF bs) := fun i => by
  unfold bsF
  split
  · exact ⟨(bk_ok _).1, (bk_ok _).2.1⟩
  · decide
theorem bsF_len (bs : List Int) (i : Nat) : (bsF bs i).length ≤ 4 := by
  unfold bsF
  split
  · exact (bk_ok _).2.2
  · decide
theorem bsF_at {bs : List Int} {i r : Nat} {x : Int} (h : bs[i]? = some x) (hx : x % 5 = r) : bsF bs i = bkOf r := by
  have hi := (List.getElem?_eq_some_iff.1 h).1
  unfold bsF
  rw [if_pos hi, List.getD_eq_getElem?_getD, h, Option.getD_some, hx]
  rfl
theorem bsF_out {bs : List Int} {i : Nat} (h : ¬ i < bs.length) : bsF bs i = [32] := by unfold bsF; rw [if_neg h]
theorem joinB_len {bs : Nat → List UInt8} (hb : ∀ i, (bs i).length ≤ 4) : ∀ (ts : List Tk) (i : Nat), (joinB bs i ts).length ≤ 4 * ts.length + sumL ts
  | [], i => by simp [joinB, sumL]
  | t :: r, i => by
    have h1 := joinB_len hb r (i + 1)
    have h2 := hb i
    rw [joinB, List.length_append, List.length_append, List.length_cons, show sumL (t :: r) = (textT t).length + sumL r by simp [sumL]]
    omega
theorem sumL_app (a b : List Tk) : sumL (a ++ b) = sumL a + sumL b := by simp [sumL]
theorem sumL_take (ts : List Tk) (k : Nat) : sumL (ts.take k) ≤ sumL ts := by
  have h := congrArg sumL (List.take_append_drop k ts)
  rw [sumL_app] at h
  omega
theorem sumL_mem {ts : List Tk} {t : Tk} (h : t ∈ ts) : (textT t).length ≤ sumL ts := by
  obtain ⟨a, b, rfl⟩ := List.append_of_mem h
  simp [sumL]
  omega
theorem take_tk {ts : List Tk} {k : Nat} {t : Tk} (h : ts[k]? = some t) : ts.take (k + 1) = ts.take k ++ [t] := by rw [List.take_add_one, h]; rfl
set_option maxHeartbeats 2000000 in
theorem blanks_long (s : ByteArray) (v : Value) (w : World) (hl : 3000 < s.size) : Calls Tryd.prog 4 #[.string s, v] w fun e w' => e = .returned (.bool true) ∧ Below w.heap.size w w' := by
  have d : decide ((3000 : Int) < (s.size : Int)) = true := by simp; omega
  go_enter Tryd.func4, Tryd.ntmps4
  go_wp2_with fail
  refine (awake_any _).mono ?_
  rintro e w1 ⟨rfl, b1⟩
  have B1 := Lib.hid b1
  clear b1
  go_wp2_with fail
  go_ret
  exact ⟨rfl, B1.out⟩
set_option maxRecDepth 100000 in
set_option maxHeartbeats 4000000 in
theorem blanks_any (s : ByteArray) (a : Option Addr) (len cap : Nat) (bs : List Int) (w : World) (hB : IsBytes w a len cap bs) (hl : s.size ≤ 3000) : Calls Tryd.prog 4 #[.string s, .slice a len cap] w fun e w' => e = .returned (.bool true) ∧ Below w.heap.size w w' := by
  have d : decide ((3000 : Int) < (s.size : Int)) = false := by simp; omega
  have LG := Lib.hid (lex_good s)
  have LB := Lib.hid (fun u hc hu hz => lex_blanks (bsF_ok bs) s u hc hu hz)
  have hle := lex_len s
  have HBY := Lib.hid hB
  have hlc : len ≤ 9223372036854775807 := by have h1 := hB.2.1; have h2 := hB.2.2.1; unfold maxLen at h2; omega
  have HLE := Lib.hid hB.1
  clear hB
  generalize hR : lexAll s = R at LG LB hle
  have HR := Lib.hid hR
  clear hR
  go_enter Tryd.func4, Tryd.ntmps4
  go_wp2_with fail
  refine (lex_any s _).mono ?_
  unfold LexPost diagV
  rw [HR.out]
  rintro e w1 ⟨vl, rfl, o1, b1⟩
  obtain ⟨al, cl, rfl, hcap, hcm⟩ := o1.toks.form
  unfold maxLen at hcm
  have B1 := Lib.hid b1
  have O1 := Lib.hid o1
  clear b1 o1
  by_cases hcode : R.code = 0
  · have d1 : ((R.code : Int) != 0) = false := by rw [hcode]; rfl
    obtain ⟨l, te, hl1, hl2, hl3, hl4, hl5⟩ := LG.out hcode
    have GD := Lib.hid (show ∀ t ∈ R.toks, GoodT t by
      intro t ht
      rw [hl1] at ht
      rcases List.mem_append.1 ht with h | h
      · exact (hl4 t h).1
      · obtain rfl : t = te := by simpa using h
        exact hl3)
    have LB2 := Lib.hid (fun u hu hz => LB.out u hcode hu hz)
    have SU := Lib.hid hl5
    clear LG LB hl1 hl2 hl3 hl4 hl5 hcode
    have O2 := Lib.hid (O1.out.below ((Below.refl _ _).alloc (Nat.le_refl _) (.cells #[.int .i64 (R.code : Nat), .int .i64 (R.pos : Nat), .int .i64 (lineOf s R.pos : Nat), .int .i64 (colOf s R.pos : Nat)] 28)))
    have B2 := Lib.hid (B1.out.alloc B1.out.size (.cells #[.int .i64 (R.code : Nat), .int .i64 (R.pos : Nat), .int .i64 (lineOf s R.pos : Nat), .int .i64 (colOf s R.pos : Nat)] 28))
    clear O1 B1
    generalize hn : R.toks.length = n at *
    have HN := Lib.hid hn
    clear hn
    go_wp2_with fail
    generalize w1.alloc (.cells #[.int .i64 (R.code : Nat), .int .i64 (R.pos : Nat), .int .i64 (lineOf s R.pos : Nat), .int .i64 (colOf s R.pos : Nat)] 28) = w2 at O2 B2 ⊢
    go_loopw [7, 8] (fun x i wr => ∃ (k : Nat) (T : ByteArray), k ≤ n ∧ i = .int .i64 k ∧ x = .string T ∧ T.data.toList = joinB (bsF bs) 0 (R.toks.take k) ∧ Below w2.heap.size w2 wr) (fun _ i _ => n - (intOf i).toNat)
    case atStart => exact ⟨0, ⟨#[]⟩, Nat.zero_le _, rfl, rfl, by simp [joinB], Below.refl _ _⟩
    case round =>
      obtain ⟨k, T, hk, rfl, rfl, hT, hb⟩ := hrel
      have BR := Lib.hid hb
      have HTL := Lib.hid hT
      have hTz : T.size ≤ 20000 := by
        rw [← len_size, hT]
        have h1 := joinB_len (bsF_len bs) (R.toks.take k) 0
        have h2 := sumL_take R.toks k
        have h3 := SU.out
        rw [List.length_take] at h1
        omega
      clear hb hT
      by_cases hlt : k < n
      · obtain ⟨g, t, hga, hg, ht, q0, q1, q2, q3, q4, q5, q6⟩ := (O2.out.toks.below BR.out).at hlt
        subst hga
        have hgt := GD.out t (List.mem_of_getElem? ht)
        have JS := Lib.hid (show joinB (bsF bs) 0 (R.toks.take (k + 1)) = joinB (bsF bs) 0 (R.toks.take k) ++ (bsF bs k ++ textT t) by
          rw [take_tk ht, joinB_snoc, List.length_take, Nat.zero_add, show min k R.toks.length = k by rw [HN.out]; omega])
        have hT2 := fun w1 => text_any t w1 hgt
        have hDz : (ByteArray.mk (textT t).toArray).size ≤ 6000 := by
          rw [ba_len]
          have h1 := sumL_mem (List.mem_of_getElem? ht)
          have h3 := SU.out
          omega
        generalize hD : ByteArray.mk (textT t).toArray = D at hT2 hDz
        have HD := Lib.hid (show D.data.toList = textT t by rw [← hD])
        have HT := Lib.hid hT2
        have hk2 : k + 1 ≤ n := by omega
        clear ht hgt hT2 hD
        by_cases hkb : k < len
        · obtain ⟨b, o, x, rfl, hbl, hx, hx0, hx1, hcx⟩ := ((HBY.out.below B2.out).below (BR.out)).at hkb
          have HX := Lib.hid hx
          clear hx
          have hcases : x % 5 = 0 ∨ x % 5 = 1 ∨ x % 5 = 2 ∨ x % 5 = 3 ∨ x % 5 = 4 := by omega
          rcases hcases with hx5 | hx5 | hx5 | hx5 | hx5
          · have HBF := Lib.hid (show bsF bs k = [32] from bsF_at HX.out hx5)
            have r1 : x.tmod 5 = 0 := by rw [Int.tmod_eq_emod_of_nonneg hx0]; omega
            have r2 : x % 5 = 0 := by omega
            clear hx5
            go_wp2_with fail
            refine (HT.out _).mono ?_
            rintro e w5 ⟨rfl, b5⟩
            have B5 := Lib.hid ((BR.out.alloc BR.out.size _).trans (b5.mono (BR.out.alloc BR.out.size _).size))
            clear b5
            go_wp2_with fail
            go_roundw
            case rel => exact ⟨k + 1, T ++ ⟨#[32]⟩ ++ D, hk2, by go_num, rfl, by rw [JS.out, ← HD.out, ← HTL.out]; simp [HBF.out], B5.out⟩
            case measure => simp [intOf]; omega
          · have HBF := Lib.hid (show bsF bs k = [10] from bsF_at HX.out hx5)
            have r1 : x.tmod 5 = 1 := by rw [Int.tmod_eq_emod_of_nonneg hx0]; omega
            have r2 : x % 5 = 1 := by omega
            clear hx5
            go_wp2_with fail
            refine (HT.out _).mono ?_
            rintro e w5 ⟨rfl, b5⟩
            have B5 := Lib.hid ((BR.out.alloc BR.out.size _).trans (b5.mono (BR.out.alloc BR.out.size _).size))
            clear b5
            go_wp2_with fail
            go_roundw
            case rel => exact ⟨k + 1, T ++ ⟨#[10]⟩ ++ D, hk2, by go_num, rfl, by rw [JS.out, ← HD.out, ← HTL.out]; simp [HBF.out], B5.out⟩
            case measure => simp [intOf]; omega
          · have HBF := Lib.hid (show bsF bs k = [9] from bsF_at HX.out hx5)
            have r1 : x.tmod 5 = 2 := by rw [Int.tmod_eq_emod_of_nonneg hx0]; omega
            have r2 : x % 5 = 2 := by omega
            clear hx5
            go_wp2_with fail
            refine (HT.out _).mono ?_
            rintro e w5 ⟨rfl, b5⟩
            have B5 := Lib.hid ((BR.out.alloc BR.out.size _).trans (b5.mono (BR.out.alloc BR.out.size _).size))
            clear b5
            go_wp2_with fail
            go_roundw
            case rel => exact ⟨k + 1, T ++ ⟨#[9]⟩ ++ D, hk2, by go_num, rfl, by rw [JS.out, ← HD.out, ← HTL.out]; simp [HBF.out], B5.out⟩
            case measure => simp [intOf]; omega
          · have HBF := Lib.hid (show bsF bs k = [13] from bsF_at HX.out hx5)
            have r1 : x.tmod 5 = 3 := by rw [Int.tmod_eq_emod_of_nonneg hx0]; omega
            have r2 : x % 5 = 3 := by omega
            clear hx5
            go_wp2_with fail
            refine (HT.out _).mono ?_
            rintro e w5 ⟨rfl, b5⟩
            have B5 := Lib.hid ((BR.out.alloc BR.out.size _).trans (b5.mono (BR.out.alloc BR.out.size _).size))
            clear b5
            go_wp2_with fail
            go_roundw
            case rel => exact ⟨k + 1, T ++ ⟨#[13]⟩ ++ D, hk2, by go_num, rfl, by rw [JS.out, ← HD.out, ← HTL.out]; simp [HBF.out], B5.out⟩
            case measure => simp [intOf]; omega
          · have HBF := Lib.hid (show bsF bs k = [32, 32, 10, 32] from bsF_at HX.out hx5)
            have r1 : x.tmod 5 = 4 := by rw [Int.tmod_eq_emod_of_nonneg hx0]; omega
            have r2 : x % 5 = 4 := by omega
            clear hx5
            go_wp2_with fail
            refine (HT.out _).mono ?_
            rintro e w5 ⟨rfl, b5⟩
            have B5 := Lib.hid ((BR.out.alloc BR.out.size _).trans (b5.mono (BR.out.alloc BR.out.size _).size))
            clear b5
            go_wp2_with fail
            go_roundw
            case rel => exact ⟨k + 1, T ++ ⟨#[32, 32, 10, 32]⟩ ++ D, hk2, by go_num, rfl, by rw [JS.out, ← HD.out, ← HTL.out]; simp [HBF.out], B5.out⟩
            case measure => simp [intOf]; omega
        · have HBF := Lib.hid (bsF_out (bs := bs) (i := k) (by rw [HLE.out]; exact hkb))
          go_wp2_with fail
          refine (HT.out _).mono ?_
          rintro e w5 ⟨rfl, b5⟩
          have B5 := Lib.hid ((BR.out).trans (b5.mono (BR.out).size))
          clear b5
          go_wp2_with fail
          go_roundw
          case rel => exact ⟨k + 1, T ++ ⟨#[32]⟩ ++ D, hk2, by go_num, rfl, by rw [JS.out, ← HD.out, ← HTL.out]; simp [HBF.out], B5.out⟩
          case measure => simp [intOf]; omega

      · obtain rfl : k = n := by omega
        have hTe : T.data.toList = joinB (bsF bs) 0 R.toks := by rw [HTL.out, List.take_of_length_le (by rw [HN.out]; omega)]
        obtain ⟨c1, c2⟩ := LB2.out T hTe (by omega)
        generalize hC : lexAll T = C at c1 c2
        have HC := Lib.hid hC
        have C2 := Lib.hid c2
        have hlC : C.toks.length = R.toks.length := by have := congrArg List.length c2; simpa using this
        have hRn : R.toks.length = k := HN.out
        clear hTe hC c2
        go_wp2_with fail
        refine (lex_any T _).mono ?_
        unfold LexPost diagV
        rw [HC.out, c1]
        rintro e w4 ⟨vm, rfl, o4, b4⟩
        have O4 := Lib.hid ((O2.out.below BR.out).below b4)
        have M4 := Lib.hid o4
        have B4 := Lib.hid (BR.out.trans (b4.mono BR.out.size))
        clear o4 b4
        go_wp2_with fail
        have O5 := Lib.hid (O4.out.below ((Below.refl _ _).alloc (Nat.le_refl _) (.cells #[.int .i64 0, .int .i64 (C.pos : Nat), .int .i64 (lineOf T C.pos : Nat), .int .i64 (colOf T C.pos : Nat)] 28)))
        have M5 := Lib.hid (M4.out.below ((Below.refl _ _).alloc (Nat.le_refl _) (.cells #[.int .i64 0, .int .i64 (C.pos : Nat), .int .i64 (lineOf T C.pos : Nat), .int .i64 (colOf T C.pos : Nat)] 28)))
        have B5 := Lib.hid (B4.out.alloc B4.out.size (.cells #[.int .i64 0, .int .i64 (C.pos : Nat), .int .i64 (lineOf T C.pos : Nat), .int .i64 (colOf T C.pos : Nat)] 28))
        generalize w4.alloc (.cells #[.int .i64 0, .int .i64 (C.pos : Nat), .int .i64 (lineOf T C.pos : Nat), .int .i64 (colOf T C.pos : Nat)] 28) = w5 at O5 M5 B5 ⊢
        refine (bare_any (.slice al k cl) R.toks _ O5.out.toks (by omega)).mono ?_
        rintro e w6 ⟨vx, rfl, ox, b6⟩
        have X6 := Lib.hid ox
        have M6 := Lib.hid (M5.out.below b6)
        have B6 := Lib.hid (B5.out.trans (b6.mono B5.out.size))
        clear ox b6 O5 M5 B5 O4 M4 B4
        go_wp2_with fail
        refine (bare_any vm C.toks _ M6.out.toks (by omega)).mono ?_
        rintro e w7 ⟨vy, rfl, oy, b7⟩
        have X7 := Lib.hid (X6.out.below b7)
        have Y7 := Lib.hid (show IsToks w7 vy (R.toks.map bareT) by rw [← C2.out]; exact oy.toks)
        have B7 := Lib.hid (B6.out.trans (b7.mono B6.out.size))
        clear oy b7
        go_wp2_with fail
        refine (same_yes vx vy (R.toks.map bareT) _ X7.out.toks Y7.out).mono ?_
        rintro e w8 ⟨rfl, m, rfl⟩
        go_wp2_with fail
        refine (awake_any _).mono ?_
        rintro e w9 ⟨rfl, b9⟩
        have B9 := Lib.hid (B2.out.trans ((B7.out.trans (((below_drewN (Below.refl _ w7) m).trans b9).mono B7.out.size)).mono B2.out.size))
        clear b9
        go_wp2_with fail
        go_ret
        exact ⟨rfl, B9.out⟩
  · have d1 : ((R.code : Int) != 0) = true := by simp; omega
    go_wp2_with fail
    refine (awake_any _).mono ?_
    rintro e w5 ⟨rfl, b5⟩
    have B5 := Lib.hid ((B1.out.alloc B1.out.size (.cells #[.int .i64 (R.code : Nat), .int .i64 (R.pos : Nat), .int .i64 (lineOf s R.pos : Nat), .int .i64 (colOf s R.pos : Nat)] 28)).trans (b5.mono (B1.out.alloc B1.out.size (.cells #[.int .i64 (R.code : Nat), .int .i64 (R.pos : Nat), .int .i64 (lineOf s R.pos : Nat), .int .i64 (colOf s R.pos : Nat)] 28)).size))
    clear b5
    go_wp2_with fail
    go_ret
    exact ⟨rfl, B5.out⟩
theorem lexPasBlanks_walk (s : ByteArray) (a : Option Addr) (len cap : Nat) (bs : List Int) (w : World) (hB : IsBytes w a len cap bs) : Calls Tryd.prog 4 #[.string s, .slice a len cap] w fun e w' => e = .returned (.bool true) ∧ Below w.heap.size w w' := by
  by_cases h : s.size ≤ 3000
  · exact blanks_any s a len cap bs w hB h
  · exact blanks_long s _ w (by omega)
end Go.Proofs.YtjdmaindoohmkaaDoor.P
