/-
  The function in the field that renames (Rename's own), and the table of first pairs: walked.
-/
import Derived.Test.YtciijpahjjoppaaGreatCln
import Derived.Maps.Views
namespace Go.Proofs.YtciijpahjjoppaaGreat
open Go.RowKit Go.Shelf Go.Deep Go.Maps

def ixOf (ps : List (ByteArray × ByteArray)) (x : ByteArray) : Option Nat := ps.findIdx? fun p => p.1.toList == x.toList
def FirstD (D : DataW Unit) (ps : List (ByteArray × ByteArray)) : Prop := IsMap D ∧ ∀ x, (∀ i, ixOf ps x = some i → has D (keyL x) = true ∧ ∀ z, D.atKey (keyL x) z = .lit (.int .i64 i)) ∧ (ixOf ps x = none → has D (keyL x) = false)
theorem keyL_lit (x : ByteArray) : WideAt.IsKeyLit (keyL x) := trivial
theorem firstD_nil : FirstD (.map []) [] := ⟨⟨_, rfl⟩, fun _ => ⟨fun i h => by simp [ixOf] at h, fun _ => rfl⟩⟩
theorem ixOf_snoc (ps : List (ByteArray × ByteArray)) (o n x : ByteArray) : ixOf (ps ++ [(o, n)]) x = (ixOf ps x).or (if o.toList == x.toList then some ps.length else none) := by
  unfold ixOf
  rw [List.findIdx?_append]
  congr 1
  cases h : o.toList == x.toList <;> simp [h, List.findIdx?_cons]
theorem firstD_old {D : DataW Unit} {ps : List (ByteArray × ByteArray)} (h : FirstD D ps) {o : ByteArray} (n : ByteArray) (ho : has D (keyL o) = true) : FirstD D (ps ++ [(o, n)]) := by
  refine ⟨h.1, fun x => ?_⟩
  rw [ixOf_snoc]
  cases hx : ixOf ps x with
  | some j => exact ⟨fun i hi => by simp at hi; subst hi; exact ((h.2 x).1 j hx), fun hn => by simp at hn⟩
  | none =>
    have hf := (h.2 x).2 hx
    have hne : (o.toList == x.toList) = false := by
      cases e : o.toList == x.toList with
      | false => rfl
      | true =>
        rw [(beq_iff o x).1 e, hf] at ho
        cases ho
    rw [hne]
    exact ⟨fun i hi => by simp at hi, fun _ => hf⟩
theorem firstD_new {D : DataW Unit} {ps : List (ByteArray × ByteArray)} (h : FirstD D ps) {o : ByteArray} (n : ByteArray) (ho : has D (keyL o) = false) : FirstD (D.put (keyL o) (.lit (.int .i64 ps.length))) (ps ++ [(o, n)]) := by
  refine ⟨h.1.put _ _, fun x => ?_⟩
  rw [ixOf_snoc]
  by_cases e : o = x
  · subst e
    have hx : ixOf ps o = none := by
      cases hx : ixOf ps o with
      | none => rfl
      | some j => rw [((h.2 o).1 j hx).1] at ho; cases ho
    rw [hx]
    refine ⟨fun i hi => ?_, fun hn => by simp at hn⟩
    simp at hi
    subst hi
    exact ⟨has_put_same h.1 (keyL_lit _) _, fun z => atKey_put_same h.1 (keyL_lit _) _ z⟩
  · have hne : (o.toList == x.toList) = false := by
      cases e' : o.toList == x.toList with
      | false => rfl
      | true => exact absurd ((beq_iff o x).1 e') e
    have hk : keyL x ≠ keyL o := fun e' => e (keyL_inj e').symm
    rw [hne]
    refine ⟨fun i hi => ?_, fun hn => ?_⟩
    · have hi' : ixOf ps x = some i := by simpa using hi
      obtain ⟨h1, h2⟩ := (h.2 x).1 i hi'
      exact ⟨by rw [has_put_other hk]; exact h1, fun z => by rw [atKey_put_other hk]; exact h2 z⟩
    · rw [has_put_other hk]
      exact (h.2 x).2 (by simpa using hn)
theorem wf_k (k : Nat) (h : k ≤ 9223372036854775807) : (Lit.int .i64 (k : Nat)).wf = true := by
  rw [show Lit.wf (.int .i64 (k : Nat)) = (decide ((-9223372036854775808 : Int) ≤ (k : Nat)) && decide (((k : Nat) : Int) ≤ 9223372036854775807)) from rfl]
  simp
  omega
/-- A row of pairs. -/
def PairsAt (w : World) (a : Option Addr) (len cap : Nat) (ps : List (ByteArray × ByteArray)) : Prop :=
  ps.length = len ∧ len ≤ cap ∧ cap ≤ maxLen ∧ (∀ p ∈ ps, p.1.size ≤ lim ∧ p.2.size ≤ lim) ∧ (len = 0 ∨ ∃ b o, a = some ⟨b, o, none⟩ ∧ b < w.heap.size ∧ ∀ (j : Nat) p, ps[j]? = some p → w.cell? ⟨b, o + j * 2, none⟩ = some (.string p.1) ∧ w.cell? ⟨b, o + j * 2 + 1, none⟩ = some (.string p.2))
theorem PairsAt.kept {w w' : World} {a : Option Addr} {len cap : Nat} {ps : List (ByteArray × ByteArray)} (h : PairsAt w a len cap ps) (hs : w.heap.size ≤ w'.heap.size) (hb : ∀ b, b < w.heap.size → w'.heap[b]? = w.heap[b]?) : PairsAt w' a len cap ps := by
  obtain ⟨h1, h2, h3, h4, h5⟩ := h
  refine ⟨h1, h2, h3, h4, ?_⟩
  rcases h5 with h5 | ⟨b, o, e, hl, hc⟩
  · exact .inl h5
  · exact .inr ⟨b, o, e, by omega, fun j p hp => ⟨(cell_eq (hb b hl)).trans (hc j p hp).1, (cell_eq (hb b hl)).trans (hc j p hp).2⟩⟩
theorem PairsAt.at {w : World} {a : Option Addr} {len cap : Nat} {ps : List (ByteArray × ByteArray)} (h : PairsAt w a len cap ps) {k : Nat} (hk : k < len) :
    ∃ b o p, a = some ⟨b, o, none⟩ ∧ b < w.heap.size ∧ ps[k]? = some p ∧ p.1.size ≤ lim ∧ p.2.size ≤ lim ∧ w.cell? ⟨b, o + k * 2, none⟩ = some (.string p.1) ∧ w.cell? ⟨b, o + k * 2 + 1, none⟩ = some (.string p.2) := by
  obtain ⟨p, hp⟩ : ∃ p, ps[k]? = some p := ⟨ps[k]'(by rw [h.1]; exact hk), List.getElem?_eq_getElem _⟩
  rcases h.2.2.2.2 with h0 | ⟨b, o, rfl, hb, hc⟩
  · omega
  · exact ⟨b, o, p, rfl, hb, hp, (h.2.2.2.1 p (List.mem_of_getElem? hp)).1, (h.2.2.2.1 p (List.mem_of_getElem? hp)).2, hc k p hp⟩
theorem under106 : Tryz.prog.underlying 106 = some (.map 9 3) := by kernel_rfl
theorem zero3 (w : World) : (zeroValue 3).run Tryz.prog w = .ok (.int .i64 0) w := by kernel_rfl
abbrev MapAt (w : World) (B n : Nat) (D : DataW Unit) : Prop := w.ownsMap Tryz.prog 9 (plainElem Tryz.prog 3) B n D

set_option maxRecDepth 100000 in
set_option maxHeartbeats 2000000 in
theorem firstOf_any (a : Option Addr) (len cap : Nat) (ps : List (ByteArray × ByteArray)) (w : World) (hP : PairsAt w a len cap ps) :
    Calls Tryz.prog 58 #[.slice a len cap] w fun e w' => e = .returned (.map (some w.heap.size)) ∧ (∃ D n, MapAt w' w.heap.size n D ∧ FirstD D ps) ∧ Below w.heap.size w w' := by
  have hmm := @run_makeMap Tryz.prog
  have hlc := hP.2.1
  have hcm := hP.2.2.1
  have HL := Lib.hid hP.1
  have HP := Lib.hid hP
  unfold maxLen at hcm
  clear hP
  go_enter Tryz.func58, Tryz.ntmps58
  go_wp2_with fail
  go_loopw [11] (fun i wr => ∃ k : Nat, k ≤ len ∧ i = .int .i64 k ∧ (∃ D n, n ≤ k ∧ MapAt wr w.heap.size n D ∧ FirstD D (ps.take k)) ∧ Below w.heap.size w wr) (fun i _ => len - (intOf i).toNat)
  case atStart => exact ⟨0, Nat.zero_le _, rfl, ⟨.map [], 0, Nat.le_refl _, World.ownsMap_made _ _ _ _, firstD_nil⟩, (Below.refl _ _).alloc (Nat.le_refl _) _⟩
  case round =>
    obtain ⟨k, hk, rfl, ⟨D, n, hn, hM, hF⟩, hB⟩ := hrel
    have HM := Lib.hid hM
    have HF := Lib.hid hF
    have HB := Lib.hid hB
    clear hM hF hB
    by_cases hlt : k < len
    · obtain ⟨b, o, p, rfl, hb, hp, hp1, hp2, c0, c1⟩ := HP.out.at hlt
      rw [← HB.out.cell (p := ⟨b, o + k * 2, none⟩) hb] at c0
      rw [← HB.out.cell (p := ⟨b, o + k * 2 + 1, none⟩) hb] at c1
      have HPK := Lib.hid hp
      have HTK := Lib.hid (show ps.take (k + 1) = ps.take k ++ [(p.1, p.2)] by rw [List.take_add_one, hp]; rfl)
      have HLK := Lib.hid (show (ps.take k).length = k by rw [List.length_take, HL.out]; omega)
      have HKEY := Lib.hid (key9 (s := p.1) (Nat.le_trans hp1 (by decide)))
      have hm1 := Lib.hid (HM.out.alloc (.cells #[.string p.1, .string p.2] 47))
      have B1 := Lib.hid (HB.out.trans (((Below.refl wr.heap.size wr).alloc (Nat.le_refl _) (.cells #[.string p.1, .string p.2] 47)).mono HB.out.size))
      have HWF := Lib.hid (show (Lit.int .i64 (k : Nat)).wf = true from wf_k k (by omega))
      clear hp
      cases hh : has D (keyL p.1) with
      | true =>
        have HH := Lib.hid hh
        clear hh
        go_wp2_with (first
          | (at_lookup; refine wpList_lookup_own_ok_int _ rfl _ _ 106 rfl 9 3 .i64 law9 under106 Tryz.underlying3 (zero3 _) w.heap.size n D rfl hm1.out _ _ rfl HKEY.out ?_; intro c hat hwc; rw [HH.out]; clear hat hwc))
        go_roundw
        case rel => exact ⟨k + 1, by omega, by go_num, ⟨D, n, by omega, hm1.out, by rw [HTK.out]; exact firstD_old HF.out _ HH.out⟩, B1.out⟩
        case measure => simp [intOf]; omega
      | false =>
        have HH := Lib.hid hh
        clear hh
        go_wp2_with (first
          | (at_lookup; refine wpList_lookup_own_ok_int _ rfl _ _ 106 rfl 9 3 .i64 law9 under106 Tryz.underlying3 (zero3 _) w.heap.size n D rfl hm1.out _ _ rfl HKEY.out ?_; intro c hat hwc; rw [HH.out]; clear hat hwc)
          | (at_mapUpdate; refine wpList_mapUpdate_own _ rfl _ _ _ 106 rfl 9 3 law9 under106 (plainElem Tryz.prog 3) w.heap.size _ _ rfl hm1.out (by unfold maxLen; omega) _ _ _ rfl rfl HKEY.out _ [] (plainElem_int Tryz.underlying3 (HWF.out)) ?_; intro w1 hown1 hgrow1))
        have HO1 := Lib.hid hown1
        have HB3 := Lib.hid (B1.out.grown hgrow1 B1.out.size (fun j hj => by cases hj; exact Nat.le_refl _))
        clear hown1 hgrow1
        go_roundw
        case rel => exact ⟨k + 1, by omega, by go_num, ⟨_, n + 1, by omega, HO1.out, by rw [HTK.out]; have := firstD_new HF.out p.2 HH.out; rw [HLK.out] at this; exact this⟩, HB3.out⟩
        case measure => simp [intOf]; omega
    · obtain rfl : k = len := by omega
      have HE := Lib.hid (show FirstD D ps by have := HF.out; rw [List.take_of_length_le (by rw [HL.out]; omega)] at this; exact this)
      go_wp2_with fail
      go_ret
      exact ⟨rfl, ⟨D, n, HM.out, HE.out⟩, HB.out⟩
end Go.Proofs.YtciijpahjjoppaaGreat
