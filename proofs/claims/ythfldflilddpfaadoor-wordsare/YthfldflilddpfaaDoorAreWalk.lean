/-
  WordsAre, walked.
-/
import Derived.Test.YthfldflilddpfaaDoorAwk
import Derived.Lib.QuietBelow
namespace Go.Proofs.YthfldflilddpfaaDoor
open Go.RowKit Go.Sort

/-- Each word is ahead of the next one. -/
def ordB : List ByteArray → Bool
  | x :: y :: r => Op.bytesLess x.data.toList y.data.toList && ordB (y :: r)
  | _ => true
theorem ordB_at : ∀ (l : List ByteArray), ordB l = true → ∀ (k : Nat) (x y : ByteArray), l[k]? = some x → l[k + 1]? = some y → Op.bytesLess x.data.toList y.data.toList = true
  | [], _, k, x, y, h, _ => by simp at h
  | [a], _, k, x, y, _, h => by simp at h
  | a :: b :: r, h, k, x, y, hx, hy => by
    unfold ordB at h
    rw [Bool.and_eq_true] at h
    cases k with
    | zero =>
      simp at hx hy
      subst hx hy
      exact h.1
    | succ k =>
      rw [List.getElem?_cons_succ] at hx hy
      exact ordB_at (b :: r) h.2 k x y hx hy
theorem pas_ord : ordB pasW = true := by decide
theorem cee_ord : ordB ceeW = true := by decide
theorem words_ord (d : Int) : ordB (wordsOf d) = true := by
  unfold wordsOf; split
  · exact pas_ord
  · split
    · exact cee_ord
    · rfl
theorem words_less (d : Int) {k : Nat} {x y : ByteArray} (hx : (wordsOf d)[k]? = some x) (hy : (wordsOf d)[k + 1]? = some y) : Op.bytesLess x.toList y.toList = true := by
  rw [ByteArray.toList_eq, ByteArray.toList_eq]
  exact ordB_at _ (words_ord d) k x y hx hy
/-- The list's own row can be written. -/
def Row (base n : Nat) (a : Option Addr) (w : World) : Prop := n = 0 ∨ ∃ g cur, a = some ⟨g, 0, none⟩ ∧ base ≤ g ∧ w.heap[g]? = some (.cells cur 9 (0, 0)) ∧ n ≤ cur.size
theorem row_of {base : Nat} {w : World} {a : Option Addr} {n cap : Nat} {ss : List ByteArray} (h : OwnS base w (.slice a n cap) ss) (hn : ss.length = n) : Row base n a w := by
  rcases h.2 with ⟨h1, h4⟩ | ⟨g, c, cur, hv, hb, hg, h1, h2, h3, _⟩
  · exact .inl (by omega)
  · cases hv
    exact .inr ⟨g, cur, rfl, hb, hg, by omega⟩
theorem heap_set {w : World} {b o : Nat} {c : Array Value} {t : TypeId} {f : Nat × Nat} (h : w.heap[b]? = some (.cells c t f)) (v : Value) :
    (w.setCell ⟨b, o, none⟩ v).heap[b]? = some (.cells (c.setIfInBounds o v) t f) := by
  simp [World.setCell, Array.getElem?_modify, h]
theorem below_set {B : Nat} {a w : World} (h : Below B a w) {g o : Nat} (hg : B ≤ g) (u : Value) : Below B a (w.setCell ⟨g, o, none⟩ u) :=
  ⟨h.os, h.tape, h.output, by simpa [World.setCell] using h.size, fun k hk => (Below.heap_setCell _ _ _ _ (by show k ≠ g; omega)).trans (h.block k hk)⟩

set_option maxHeartbeats 3200000 in
theorem wordsAre_walk (d : Int) (s : ByteArray) (w : World) (_hs : s.size ≤ maxLen) :
    Calls Tryd.prog 3 #[.int .i64 d, .string s] w fun e w' => e = .returned (.bool true) ∧ Below w.heap.size w w' := by
  go_enter Tryd.func3, Tryd.ntmps3
  go_wp2_with fail
  refine (all_any d _).mono ?_
  rintro e w1 ⟨v1, rfl, o1, b1⟩
  obtain ⟨a, cap, hv, S1⟩ := o1.strs (words_ok d)
  subst hv
  have O1 := Lib.hid o1
  have H1 := Lib.hid S1
  have B1 := Lib.hid b1
  clear S1 b1 o1
  go_wp2_with fail
  refine (refAll_any d _).mono ?_
  rintro e w2 ⟨v2, rfl, o2, b2⟩
  obtain ⟨a2, c2, hv, S2⟩ := o2.strs (words_ok d)
  subst hv
  have H2 := Lib.hid S2
  have O2 := Lib.hid (O1.out.below b2)
  have H1' := Lib.hid (H1.out.below b2)
  have B2 := Lib.hid (B1.out.trans (b2.mono B1.out.size))
  clear S2 b2 o2 O1 H1 B1
  go_wp2_with fail
  refine (sameTexts_any _ _ _ _ _ _ _ _ _ H1'.out H2.out).mono ?_
  rw [sameL_refl]
  rintro e w3 ⟨rfl, n3, rfl⟩
  have B3 := Lib.hid (below_drewN B2.out n3)
  have O3 := Lib.hid (O2.out.below (below_drewN (Below.refl w2.heap.size w2) n3))
  generalize w2.drewN n3 = w3 at B3 O3 ⊢
  clear B2 O2 H1' H2
  go_wp2_with fail
  refine (is_any d s _).mono ?_
  rintro e w4 ⟨rfl, b4⟩
  have B4 := Lib.hid (B3.out.trans (b4.mono B3.out.size))
  have O4 := Lib.hid (O3.out.below b4)
  clear b4 B3 O3
  go_wp2_with fail
  refine (refIs_any d s _).mono ?_
  rintro e w5 ⟨rfl, b5⟩
  have B5 := Lib.hid (B4.out.trans (b5.mono B4.out.size))
  have O5 := Lib.hid (O4.out.below b5)
  clear b5 B4 O4
  generalize isIn s (wordsOf d) = r
  have hrr : (r == r) = true := by simp
  have hrn : (r != r) = false := by simp
  have hwl := words_len d
  generalize hn : (wordsOf d).length = n at hwl ⊢
  rw [hn] at O5
  have HN := Lib.hid hn
  clear hn
  go_wp2_with fail
  go_loopw [6] (fun i wr => ∃ k : Nat, k ≤ n ∧ i = .int .i64 (k : Nat) ∧ OwnS w.heap.size wr (.slice a n cap) (wordsOf d) ∧ Below w.heap.size w wr)
    (fun i _ => n - (intOf i).toNat)
  case atStart => exact ⟨0, Nat.zero_le _, rfl, O5.out, B5.out⟩
  case round =>
    obtain ⟨k, hk, rfl, hown, hnx⟩ := hrel
    have HO := Lib.hid hown
    have HB := Lib.hid hnx
    clear hown hnx
    by_cases hlt : k < n
    · obtain ⟨a', c', e', S0⟩ := HO.out.strs (words_ok d)
      rw [HN.out] at e' S0
      cases e'
      obtain ⟨b, o, x, rfl, hx, hxs, hc⟩ := S0.at hlt
      have hin : isIn x (wordsOf d) = true := (isIn_iff _ _).2 (List.mem_of_getElem? hx)
      have cI : ∀ q os, Calls Tryd.prog 12 #[.int .i64 d, .string x] (grow (redrawn wr q) os) fun e w'' => e = .returned (.bool true) ∧ ∃ p : Regrown, w'' = grow (redrawn wr p.d) p.os := fun q os => by
        have := is_any d x (grow (redrawn wr q) os)
        rw [hin] at this
        exact Calls.regrown_of this
      have CI := Lib.hid cI
      clear cI hin
      by_cases h0 : k = 0
      · subst h0
        rw [Nat.add_zero] at hc
        have k1 := cell_regrown hc
        clear hx S0 hc
        go_wp2_with fail
        refine wp_region_quiet_below (by kernel_rfl) (by kernel_rfl) ?_
        repeat (first | go_big_quiet_step ((with_reducible exact CI.out _ _)) | quiet_step ((with_reducible exact CI.out _ _)))
        refine wpQuiet_nil ?_
        intro _ hw'
        obtain ⟨⟨dq, osq⟩, hw''⟩ := hw'
        subst hw''
        have HB2 := Lib.hid (HB.out.trans ((below_regrown wr dq osq).mono HB.out.size))
        have HO2 := Lib.hid (HO.out.below (below_regrown wr dq osq))
        generalize grow (redrawn wr dq) osq = w6 at HB2 HO2 ⊢
        go_wp2_with fail
        go_roundw
        case rel => exact ⟨1, by omega, by go_num, HO2.out, HB2.out⟩
        case measure => simp [intOf]; omega
      · obtain ⟨m, rfl⟩ : ∃ m, k = m + 1 := ⟨k - 1, by omega⟩
        obtain ⟨b', o', y, e', hy, hys, hc2⟩ := S0.at (show m < n by omega)
        cases e'
        have k1 := cell_regrown hc
        have k2 := cell_regrown hc2
        have hless := words_less d hy hx
        clear hx hy S0 hc hc2 h0
        go_wp2_with fail
        refine wp_region_quiet_below (by kernel_rfl) (by kernel_rfl) ?_
        repeat (first | go_big_quiet_step ((with_reducible exact CI.out _ _)) | quiet_step ((with_reducible exact CI.out _ _)))
        refine wpQuiet_nil ?_
        intro _ hw'
        obtain ⟨⟨dq, osq⟩, hw''⟩ := hw'
        subst hw''
        have HB2 := Lib.hid (HB.out.trans ((below_regrown wr dq osq).mono HB.out.size))
        have HO2 := Lib.hid (HO.out.below (below_regrown wr dq osq))
        generalize grow (redrawn wr dq) osq = w6 at HB2 HO2 ⊢
        go_wp2_with fail
        go_roundw
        case rel => exact ⟨m + 1 + 1, by omega, by go_num, HO2.out, HB2.out⟩
        case measure => simp [intOf]; omega
    · have hk2 : k = n := by omega
      subst hk2
      have R5 := Lib.hid (row_of HO.out HN.out)
      clear HO O5 B5
      go_wp2_with fail
      go_loopw [7] (fun i wr2 => ∃ m : Nat, m ≤ k ∧ i = .int .i64 (m : Nat) ∧ Row w.heap.size k a wr2 ∧ Below w.heap.size w wr2)
        (fun i _ => k - (intOf i).toNat)
      case atStart => exact ⟨0, Nat.zero_le _, rfl, R5.out, HB.out⟩
      case round =>
        obtain ⟨m, hm, rfl, hrow, hnx⟩ := hrel
        have HB2 := Lib.hid hnx
        clear hnx
        by_cases hlt2 : m < k
        · rcases hrow with h0 | ⟨g, cur, rfl, hg, hcur, hsz⟩
          · omega
          · have hc : wr.cell? ⟨g, m, none⟩ = some cur[m] := by simp [World.cell?, hcur]
            have hz : wr.frozen? ⟨g, m, none⟩ = false := by simp [World.frozen?, hcur]
            have HC := Lib.hid (heap_set (o := m) hcur (.string ⟨#[120]⟩))
            have HB3 := Lib.hid (below_set (o := m) HB2.out hg (.string ⟨#[120]⟩))
            clear hcur
            go_wp2_with fail
            go_roundw
            case rel => exact ⟨m + 1, by omega, by go_num, .inr ⟨g, _, rfl, hg, HC.out, by simpa using hsz⟩, HB3.out⟩
            case measure => simp [intOf]; omega
        · have hm2 : m = k := by omega
          subst hm2
          clear hrow
          go_wp2_with fail
          refine (all_any d _).mono ?_
          rintro e w7 ⟨v7, rfl, o7, b7⟩
          obtain ⟨a7, c7, hv, S7⟩ := o7.strs (words_ok d)
          subst hv
          have H7 := Lib.hid S7
          have B7 := Lib.hid (HB2.out.trans (b7.mono HB2.out.size))
          clear S7 b7 o7 HB2
          go_wp2_with fail
          refine (refAll_any d _).mono ?_
          rintro e w8 ⟨v8, rfl, o8, b8⟩
          obtain ⟨a8, c8, hv, S8⟩ := o8.strs (words_ok d)
          subst hv
          have H8 := Lib.hid S8
          have H7' := Lib.hid (H7.out.below b8)
          have B8 := Lib.hid (B7.out.trans (b8.mono B7.out.size))
          clear S8 b8 o8 H7 B7
          go_wp2_with fail
          refine (sameTexts_any _ _ _ _ _ _ _ _ _ H7'.out H8.out).mono ?_
          rw [sameL_refl]
          rintro e w9 ⟨rfl, n9, rfl⟩
          have B9 := Lib.hid (below_drewN B8.out n9)
          generalize w8.drewN n9 = w9 at B9 ⊢
          clear B8 H7' H8
          go_wp2_with fail
          refine (awake_any _).mono ?_
          rintro e wz ⟨rfl, bz⟩
          have BZ := Lib.hid (B9.out.trans (bz.mono B9.out.size))
          clear bz B9
          go_wp2_with fail
          go_ret
          exact ⟨rfl, BZ.out⟩
end Go.Proofs.YthfldflilddpfaaDoor
