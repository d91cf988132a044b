/-
  The scanner's reader of a sign, walked.
-/
import Derived.Test.YtjdmaindoohmkaaDoorPSe
namespace Go.Proofs.YtjdmaindoohmkaaDoor.P
open Go.RowKit Go.Sort

def lstep (l acc g : List UInt8) : List UInt8 := if (decide (acc.length < g.length) && Lib.hasPrefix l g) = true then g else acc
/-- The longest that fits, one behind the other. -/
def lon (l : List UInt8) (gs : List (List UInt8)) : List UInt8 := gs.foldl (lstep l) []
theorem lon_snoc (l : List UInt8) (gs : List (List UInt8)) (g : List UInt8) : lon l (gs ++ [g]) = lstep l (lon l gs) g := by simp [lon]
theorem fold_keep (l acc : List UInt8) : ∀ gs : List (List UInt8), (∀ g ∈ gs, g.length ≤ acc.length) → gs.foldl (lstep l) acc = acc
  | [], _ => rfl
  | g :: r, h => by
    have h1 := h g (by simp)
    rw [List.foldl_cons, show lstep l acc g = acc by unfold lstep; rw [decide_eq_false (by omega)]; rfl]
    exact fold_keep l acc r fun x hx => h x (by simp [hx])
theorem lon_find (l : List UInt8) : ∀ gs : List (List UInt8), gs.Pairwise (fun a b => b.length ≤ a.length) → (∀ g ∈ gs, 1 ≤ g.length) → lon l gs = (gs.find? fun g => Lib.hasPrefix l g).getD []
  | [], _, _ => rfl
  | g :: r, hp, h1 => by
    unfold lon
    rw [List.foldl_cons, List.find?_cons]
    have hg := h1 g (by simp)
    cases hb : Lib.hasPrefix l g with
    | true =>
      rw [show lstep l [] g = g by unfold lstep; rw [hb, decide_eq_true (by simp; omega)]; rfl]
      rw [fold_keep l g r (List.pairwise_cons.1 hp).1]
      rfl
    | false =>
      rw [show lstep l [] g = [] by unfold lstep; rw [hb]; simp]
      exact lon_find l r (List.pairwise_cons.1 hp).2 fun x hx => h1 x (by simp [hx])
theorem signs_pair : signs.Pairwise (fun a b => b.length ≤ a.length) := by decide
theorem signs_pos : ∀ g ∈ signs, 1 ≤ g.length := by decide
theorem lon_signs (l : List UInt8) : lon l signs = (signs.find? fun g => Lib.hasPrefix l g).getD [] := lon_find l signs signs_pair signs_pos
theorem signL_eq (l : List UInt8) : signL l = if lon l signs = [] then bad 5 else ⟨5, lon l signs, 0, (lon l signs).length, 0⟩ := by
  rw [lon_signs]
  unfold signL
  cases h : signs.find? fun g => Lib.hasPrefix l g with
  | none => rfl
  | some g =>
    have := signs_pos g (List.mem_of_find?_eq_some h)
    simp only [Option.getD_some]
    rw [if_neg (by intro e; rw [e] at this; simp at this)]
theorem lon_pref (l : List UInt8) (h : lon l signs ≠ []) : (lon l signs).length ≤ l.length := by
  rw [lon_signs] at h ⊢
  cases hf : signs.find? fun g => Lib.hasPrefix l g with
  | none => rw [hf] at h; exact absurd rfl h
  | some g => exact hp_len (List.find?_some hf)
theorem lon_le (l : List UInt8) : ∀ gs : List (List UInt8), (∀ g ∈ gs, g.length ≤ 2) → (lon l gs).length ≤ 2 := by
  have go : ∀ (gs : List (List UInt8)) (acc : List UInt8), acc.length ≤ 2 → (∀ g ∈ gs, g.length ≤ 2) → (gs.foldl (lstep l) acc).length ≤ 2 := by
    intro gs
    induction gs with
    | nil => intro acc h _; exact h
    | cons g r ih =>
      intro acc h hg
      rw [List.foldl_cons]
      refine ih _ ?_ fun x hx => hg x (by simp [hx])
      unfold lstep
      split
      · exact hg g (by simp)
      · exact h
  intro gs h
  exact go gs [] (by simp) h
def signsA : List ByteArray := signs.map fun g => ⟨g.toArray⟩
theorem signsA_at (j : Nat) (h : j < 18) : ∃ g, signs[j]? = some g ∧ signsA[j]? = some ⟨g.toArray⟩ ∧ g.length ≤ 2 := by
  have h2 : j < signs.length := h
  refine ⟨signs[j], List.getElem?_eq_getElem h2, ?_, (signs_len _ (List.getElem_mem h2)).2⟩
  unfold signsA
  rw [List.getElem?_map, List.getElem?_eq_getElem h2]
  rfl
theorem take_g {gs : List (List UInt8)} {k : Nat} {x : List UInt8} (h : gs[k]? = some x) : gs.take (k + 1) = gs.take k ++ [x] := by
  rw [List.take_add_one, h]; rfl
theorem str_eq {a b : List UInt8} (h : a = b) : Value.string ⟨a.toArray⟩ = Value.string ⟨b.toArray⟩ := by rw [h]
def lonT (l : List UInt8) (j : Nat) : ByteArray := ⟨(lon l (signs.take j)).toArray⟩
theorem lonT_size (l : List UInt8) (j : Nat) : (lonT l j).size ≤ 2 := by
  unfold lonT
  rw [ba_len]
  exact lon_le l (signs.take j) fun g hg => (signs_len g (List.mem_of_mem_take hg)).2
theorem lonT_yes {l g : List UInt8} {j : Nat} (hg : signs[j]? = some g) (h1 : (lonT l j).size < (ByteArray.mk g.toArray).size) (h2 : Lib.hasPrefix l g = true) : lonT l (j + 1) = ⟨g.toArray⟩ := by
  unfold lonT at h1 ⊢
  rw [ba_len, ba_len] at h1
  rw [take_g hg, lon_snoc, lstep, decide_eq_true h1, h2]; rfl
theorem lonT_no1 {l g : List UInt8} {j : Nat} (hg : signs[j]? = some g) (h1 : ¬ (lonT l j).size < (ByteArray.mk g.toArray).size) : lonT l (j + 1) = lonT l j := by
  unfold lonT at h1 ⊢
  rw [ba_len, ba_len] at h1
  rw [take_g hg, lon_snoc, lstep, decide_eq_false h1]; rfl
theorem lonT_no2 {l g : List UInt8} {j : Nat} (hg : signs[j]? = some g) (h2 : Lib.hasPrefix l g = false) : lonT l (j + 1) = lonT l j := by
  unfold lonT
  rw [take_g hg, lon_snoc, lstep, h2, Bool.and_false]; rfl
theorem lonT_0 (l : List UInt8) : lonT l 0 = ⟨#[]⟩ := rfl
theorem lonT_18 (l : List UInt8) : lonT l 18 = ⟨(lon l signs).toArray⟩ := rfl
theorem sign_none {l : List UInt8} (h : (lonT l 18).size = 0) : signL l = bad 5 := by
  rw [lonT_18, ba_len] at h
  rw [signL_eq, if_pos (List.eq_nil_of_length_eq_zero h)]
theorem sign_some {l : List UInt8} (h : (lonT l 18).size ≠ 0) : signL l = ⟨5, (lonT l 18).data.toList, 0, (lonT l 18).size, 0⟩ ∧ (lonT l 18).size ≤ l.length := by
  have hp := lon_pref l
  rw [lonT_18] at h
  rw [lonT_18, signL_eq]
  generalize lon l signs = q at *
  rw [ba_len] at h ⊢
  have hq : q ≠ [] := fun e => h (by rw [e]; rfl)
  rw [if_neg hq]
  exact ⟨rfl, hp hq⟩
set_option maxHeartbeats 2000000 in
theorem sign_tok (p c k : Nat) (s : ByteArray) (a : Option Addr) (w : World) (h : ScAt w p c s k) (hs : s.size ≤ maxLen) (hS : IsStrs w a 18 18 signsA) :
    Calls Tryd.prog 40 #[.pointer (some ⟨p, 0, none⟩), .slice a 18 18] w (TokPost c s k (signL (s.data.toList.drop k)) w) := by
  have h0 := h.c0
  have hcl := h.cur.lt
  have hpl := h.lt
  have H := Lib.hid h
  have HS := Lib.hid hS
  clear h hS
  generalize hl : s.data.toList.drop k = l
  have HL := Lib.hid hl
  clear hl
  generalize hf : signL l = f
  have HF := Lib.hid hf
  clear hf
  go_enter Tryd.func40, Tryd.ntmps40
  go_wp2_with fail
  have Z := Lib.hid (TokZ.new w)
  have B := Lib.hid (show Below w.heap.size w (w.alloc (.cells #[.int .i64 0, .string ⟨#[]⟩, .int .i64 0, .bool false, .int .i64 0, .int .i64 0, .int .i64 0] 38)) from (Below.refl _ _).alloc (Nat.le_refl _) _)
  have H0 := Lib.hid (H.out.alloc (.cells #[.int .i64 0, .string ⟨#[]⟩, .int .i64 0, .bool false, .int .i64 0, .int .i64 0, .int .i64 0] 38))
  have S0 := Lib.hid (HS.out.below B.out)
  generalize w.alloc (.cells #[.int .i64 0, .string ⟨#[]⟩, .int .i64 0, .bool false, .int .i64 0, .int .i64 0, .int .i64 0] 38) = w0 at Z B H0 S0
  clear h0 H HS
  go_loopw [6, 11] (fun lg i wr => ∃ j : Nat, j ≤ 18 ∧ i = .int .i64 j ∧ lg = .string (lonT l j) ∧ Below w0.heap.size w0 wr) (fun _ i _ => 18 - (intOf i).toNat)
  case atStart => exact ⟨0, by omega, rfl, rfl, Below.refl _ _⟩
  case round =>
    obtain ⟨j, hj, rfl, rfl, hb⟩ := hrel
    have BR := Lib.hid hb
    clear hb
    have hsz := lonT_size l j
    by_cases hlt : j < 18
    · obtain ⟨g, hg, hgA, hg2⟩ := signsA_at j hlt
      obtain ⟨b, o, x, rfl, hx, hxs, hcell⟩ := (S0.out.below BR.out).at hlt
      obtain rfl : x = ⟨g.toArray⟩ := Option.some.inj (hx.symm.trans hgA)
      have HG := Lib.hid hg
      have H1 := Lib.hid (H0.out.below BR.out)
      clear hg hgA hx
      have BG := fun w1 hw => begins2 p c k s ⟨g.toArray⟩ w1 hw
      rw [HL.out] at BG
      generalize hT : lonT l j = T at hsz
      have HT := Lib.hid hT
      clear hT
      by_cases h1 : T.size < (ByteArray.mk g.toArray).size
      · have d1 : decide (T.size < (ByteArray.mk g.toArray).size) = true := by simpa using h1
        have d1' : decide ((T.size : Int) < ((ByteArray.mk g.toArray).size : Int)) = true := by simp; omega
        cases h2 : Lib.hasPrefix l g with
        | true =>
          have E := Lib.hid (lonT_yes HG.out (by rw [HT.out]; exact h1) h2)
          rw [show Lib.hasPrefix l (ByteArray.mk g.toArray).data.toList = true from h2] at BG
          have HB := Lib.hid BG
          clear BG h2
          generalize (ByteArray.mk g.toArray) = G at *
          go_wp2_with fail
          refine (HB.out _ H1.out).mono ?_
          rintro e w2 ⟨rfl, b2⟩
          have B2 := Lib.hid (BR.out.trans (b2.mono BR.out.size))
          clear b2
          go_wp2_with fail
          go_roundw
          case rel => exact ⟨j + 1, by omega, by go_num, by rw [E.out], B2.out⟩
          case measure => simp [intOf]; omega
        | false =>
          have E := Lib.hid ((lonT_no2 HG.out h2).trans HT.out)
          rw [show Lib.hasPrefix l (ByteArray.mk g.toArray).data.toList = false from h2] at BG
          have HB := Lib.hid BG
          clear BG h2
          generalize (ByteArray.mk g.toArray) = G at *
          go_wp2_with fail
          refine (HB.out _ H1.out).mono ?_
          rintro e w2 ⟨rfl, b2⟩
          have B2 := Lib.hid (BR.out.trans (b2.mono BR.out.size))
          clear b2
          go_wp2_with fail
          go_roundw
          case rel => exact ⟨j + 1, by omega, by go_num, by rw [E.out], B2.out⟩
          case measure => simp [intOf]; omega
      · have d1 : decide (T.size < (ByteArray.mk g.toArray).size) = false := by simpa using h1
        have d1' : decide ((T.size : Int) < ((ByteArray.mk g.toArray).size : Int)) = false := by simp; omega
        have E := Lib.hid ((lonT_no1 HG.out (by rw [HT.out]; exact h1)).trans HT.out)
        clear BG
        generalize (ByteArray.mk g.toArray) = G at *
        go_wp2_with fail
        go_roundw
        case rel => exact ⟨j + 1, by omega, by go_num, by rw [E.out], BR.out⟩
        case measure => simp [intOf]; omega
    · obtain rfl : j = 18 := by omega
      have H1 := Lib.hid (H0.out.below BR.out)
      have h01 := H1.out.c0
      have Z1 := Lib.hid (Z.out.below BR.out)
      have BB := Lib.hid (B.out.trans (BR.out.mono B.out.size))
      by_cases h1 : (lonT l 18).size = 0
      · obtain rfl : f = bad 5 := by rw [← HF.out]; exact sign_none h1
        have ht : lonT l 18 = ⟨#[]⟩ := ba_empty _ h1
        rw [ht]
        obtain ⟨g0, g1, g2, g3, g4, g5, g6, gf⟩ := Z1.out.facts
        clear h1 ht
        go_wp2_with fail
        exact bodyPost_ret (v := .tuple #[tokV (bad 5), .int .i64 5]) (by simp [results, Tryd.results40, go_sem, tokV, bad, g0, g1, g2, g3, g4, g5, g6]) rfl (post7 (f := bad 5) (Nat.le_refl _) (by omega) (Only.ofBelow BB.out (Nat.le_refl _)) (fun h => by cases h) _ _ _ _ _ _ _)
      · obtain ⟨e1, e2⟩ := sign_some h1
        rw [HF.out] at e1
        have hd : s.size - k = l.length := by have := congrArg List.length HL.out; rw [List.length_drop, len_size] at this; exact this
        have hne := toList_ne (lonT l 18) (by omega)
        generalize lonT l 18 = T at *
        have n1 : (T.toList == []) = false := by simpa using hne
        have n2 : T.toList.isEmpty = false := by simpa using hne
        have EF := Lib.hid e1
        clear e1 hne
        have hk1 : k ≤ s.size := H1.out.cur.le
        have hsk : skipN (T.size : Int) k s = T.size := by unfold skipN; omega
        have HK := Lib.hid hsk
        clear hsk
        go_wp2_with fail
        refine (skip_any c k (T.size : Int) s _ H1.out.cur hs).mono ?_
        rw [HK.out]
        rintro e w4 ⟨rfl, c4, o4⟩
        have C4 := Lib.hid c4
        have O4 := Lib.hid ((Only.ofBelow BB.out (Nat.le_refl _)).trans o4)
        have Z4 := Lib.hid (Z1.out.only o4 (by omega))
        obtain ⟨g0, g1, g2, g3, g4, g5, g6, gf⟩ := Z4.out.facts
        clear c4 o4 h01
        go_wp2_with fail
        have et : tokV f = .agg #[.int .i64 5, .string T, .int .i64 0, .bool false, .int .i64 0, .int .i64 0, .int .i64 0] := by rw [EF.out]; rfl
        refine bodyPost_ret (v := .tuple #[tokV f, .int .i64 0]) (by rw [et]; simp [results, Tryd.results40, go_sem, g0, g1, g2, g3, g4, g5, g6]) rfl ?_
        have hp := post7 (c := c) (k := k) (s := s) (f := f) (w := w) (w1 := w4) (b := w.heap.size) (Nat.le_refl _) (by omega) O4.out (fun _ => by rw [EF.out]; exact C4.out) (.int .i64 5) (.string T) (.int .i64 0) (.bool false) (.int .i64 0) (.int .i64 0) (.int .i64 0)
        rw [show f.err = 0 by rw [EF.out]] at hp
        exact hp
end Go.Proofs.YtjdmaindoohmkaaDoor.P
