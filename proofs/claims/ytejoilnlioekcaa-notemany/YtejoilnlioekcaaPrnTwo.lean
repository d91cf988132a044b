/-
  note.Print2, walked.
-/
import Derived.Test.YtejoilnlioekcaaApartWalk
namespace Go.Proofs.Ytejoilnlioekcaa
open Go.RowKit

def IsStrs (w : World) (a : Option Addr) (len cap : Nat) (ss : List ByteArray) : Prop :=
  ss.length = len ∧ len ≤ cap ∧ cap ≤ maxLen ∧ (∀ x ∈ ss, x.size ≤ maxLen) ∧ (len = 0 ∨ ∃ b o, a = some ⟨b, o, none⟩ ∧ b < w.heap.size ∧ ∀ j x, ss[j]? = some x → w.cell? ⟨b, o + j, none⟩ = some (.string x))
/-- The forms of all, a line feed behind each, behind acc; the error of the first one that has one. -/
def many (d : Int) : List UInt8 → List (List UInt8) → List UInt8 × Nat
  | acc, [] => (acc, 0)
  | acc, x :: r => if errL d x = 0 then many d (acc ++ form d x ++ [10]) r else ([], errL d x)
theorem many_nil (d : Int) (acc : List UInt8) : many d acc [] = (acc, 0) := rfl
theorem many_cons (d : Int) (acc x : List UInt8) (r : List (List UInt8)) : many d acc (x :: r) = if errL d x = 0 then many d (acc ++ form d x ++ [10]) r else ([], errL d x) := rfl
theorem dia_of {d : Int} {l : List UInt8} (h : errL d l = 0) : Dia d := by
  by_cases hd : Dia d
  · exact hd
  · unfold errL at h; rw [not_dia hd] at h; simp at h
theorem form_small {d : Int} {s : ByteArray} (h : errL d s.data.toList = 0) : (formA d s).size ≤ 2999 := by
  have hd := dia_of h
  have h1 := (form_len d hd s.data.toList).2
  have h2 := (check_zero (err_check hd h)).1
  have h3 : d.toNat ≤ 1 := by unfold Dia at hd; omega
  rw [formA_size]
  omega
theorem drop_ss {ss : List ByteArray} {k : Nat} {x : ByteArray} (h : ss[k]? = some x) : (ss.map (·.data.toList)).drop k = x.data.toList :: (ss.map (·.data.toList)).drop (k + 1) := by
  obtain ⟨h1, h2⟩ := List.getElem?_eq_some_iff.1 h
  rw [List.drop_eq_getElem_cons (by simpa using h1)]
  simp [h2]

theorem IsBuilderF_below {B b : Nat} {bs : List Value} {w w' : World} (h : Lib.IsBuilderF 48 5 B b bs w) (hb : Below w.heap.size w w') : Lib.IsBuilderF 48 5 B b bs w' := by
  have hg : w.grownBy w' none := ⟨hb.os, hb.tape, hb.output, hb.size, fun k hk _ => hb.block k hk⟩
  have key : ∀ p, Lib.BuilderAtF 48 5 B b p bs w → Lib.BuilderAtF 48 5 B b p bs w' := by
    intro p h1
    have hlt := h1.lt
    obtain ⟨hB, v, hv, hown, hne⟩ := h1
    exact ⟨hB, v, (hb.block b hlt).trans hv, hown.kept hg (by cases hx : v.ownBlock <;> simp), hne⟩
  exact h.elim (fun x => .inl (key _ x)) (fun x => .inr (key _ x))
/-- In wr the block at w's end is a builder that holds acc; below it all is as in w. -/
structure B2 (w : World) (acc : List UInt8) (wr : World) : Prop where
  bld : Lib.IsBuilderF 48 5 w.heap.size w.heap.size (Lib.byteCells acc) wr
  bel : Below w.heap.size w wr
  lt : w.heap.size < wr.heap.size
theorem B2.begin (w : World) : B2 w [] (w.alloc (.cells #[.pointer none, .slice none 0 0] 48)) :=
  ⟨Lib.IsBuilderF.of (Lib.fresh_isBuilder 48 5 w), (Below.refl _ _).alloc (Nat.le_refl _) _, by simp⟩
theorem B2.below {w wr w' : World} {acc : List UInt8} (h : B2 w acc wr) (hb : Below wr.heap.size wr w') : B2 w acc w' :=
  ⟨IsBuilderF_below h.bld hb, h.bel.trans (hb.mono h.bel.size), Nat.lt_of_lt_of_le h.lt hb.size⟩
theorem B2.writeString {w wr : World} {acc : List UInt8} (h : B2 w acc wr) (t : ByteArray) (ht : t.size ≤ 1000000) (hl : acc.length ≤ 1000000) :
    Calls Try.prog 22 #[.pointer (some ⟨w.heap.size, 0, none⟩), .string t] wr fun e w' => e = .returned (.tuple #[.int .i64 t.size, .nilIface]) ∧ B2 w (acc ++ t.data.toList) w' := by
  refine (Try.Builder_WriteString_k _ _ _ t wr h.bld (by rw [Lib.byteCells_length]; omega) h.bel.size).mono ?_
  rintro e w' ⟨rfl, h1, b1, _⟩
  refine ⟨rfl, ?_, h.bel.trans b1, Nat.lt_of_lt_of_le h.lt b1.size⟩
  rw [Lib.byteCells_append]
  exact Or.inr h1
theorem B2.byte10 {w wr : World} {acc : List UInt8} (h : B2 w acc wr) (hl : acc.length ≤ 1000000) :
    Calls Try.prog 24 #[.pointer (some ⟨w.heap.size, 0, none⟩), .int .u8 10] wr fun e w' => e = .returned .nilIface ∧ B2 w (acc ++ [10]) w' := by
  refine (Try.Builder_WriteByte_k _ _ _ 10 wr h.bld (by rw [Lib.byteCells_length]; omega) h.bel.size).mono ?_
  rintro e w' ⟨rfl, h1, b1, _⟩
  refine ⟨rfl, ?_, h.bel.trans b1, Nat.lt_of_lt_of_le h.lt b1.size⟩
  rw [Lib.byteCells_append]
  exact Or.inr h1
theorem B2.string {w wr : World} {acc : List UInt8} (h : B2 w acc wr) :
    Calls Try.prog 26 #[.pointer (some ⟨w.heap.size, 0, none⟩)] wr fun e w' => e = .returned (.string ⟨acc.toArray⟩) ∧ Below w.heap.size w w' := by
  refine (Try.Builder_String_any_k _ _ acc wr h.bld h.bel.size).mono ?_
  rintro e w' ⟨rfl, _, b1, _⟩
  exact ⟨rfl, h.bel.trans b1⟩

set_option maxHeartbeats 800000 in
theorem print2_any (d : Int) (a : Option Addr) (len cap : Nat) (ss : List ByteArray) (T : ByteArray) (E : Nat) (w : World) (hS : IsStrs w a len cap ss) (hlen : len ≤ 20)
    (hm : many d [] (ss.map (·.data.toList)) = (T.data.toList, E)) :
    Calls Try.prog 19 #[.int .i64 d, .slice a len cap] w fun e w' => e = .returned (.tuple #[.string T, .int .i64 (E : Nat)]) ∧ Below w.heap.size w w' := by
  obtain ⟨hl, hcap, _, _, hor⟩ := hS
  have HL := Lib.hid hl
  have HM := Lib.hid hm
  have HO := Lib.hid hor
  clear hl hm hor
  go_enter Try.func19, Try.ntmps19
  go_wp2_with fail
  go_loopw [13] (fun i wr => ∃ (k : Nat) (acc : List UInt8), i = .int .i64 k ∧ k ≤ len ∧ B2 w acc wr ∧ many d acc ((ss.map (·.data.toList)).drop k) = (T.data.toList, E) ∧ acc.length ≤ 3000 * k) (fun i _ => len - (intOf i).toNat)
  case atStart => exact ⟨0, [], rfl, Nat.zero_le _, B2.begin w, HM.out, by simp⟩
  case round =>
    obtain ⟨k, acc, rfl, hk, hb, hmk, hal⟩ := hrel
    have S := Lib.hid hb
    have M := Lib.hid hmk
    clear hb hmk
    by_cases hlt : k < len
    · have ho := HO.out
      rcases ho with h0 | ⟨b, o, rfl, hbl, hcell⟩
      · omega
      · obtain ⟨x, hx⟩ : ∃ x, ss[k]? = some x := ⟨ss[k]'(by rw [HL.out]; exact hlt), List.getElem?_eq_getElem _⟩
        have hc : wr.cell? ⟨b, o + k, none⟩ = some (.string x) := by
          rw [S.out.bel.cell (p := ⟨b, o + k, none⟩) hbl]; exact hcell k x hx
        have DS := Lib.hid (drop_ss hx)
        clear hcell hx hbl HO
        by_cases he : errL d x.data.toList = 0
        · have EE := Lib.hid he
          have hf := form_small he
          have N : Hid (many d (acc ++ (formA d x).data.toList ++ [10]) ((ss.map (·.data.toList)).drop (k + 1)) = (T.data.toList, E)) := Lib.hid (by
            rw [← M.out, DS.out, many_cons, if_pos he, formA_l])
          clear he
          go_wp2_with fail
          refine (print_fine d x _ EE.out).mono ?_
          generalize formA d x = u at hf N ⊢
          rintro e w1 ⟨rfl, b1⟩
          have S1 := Lib.hid (S.out.below b1)
          clear b1
          go_wp2_with fail
          refine (S1.out.writeString u (by omega) (by omega)).mono ?_
          rintro e w2 ⟨rfl, s2⟩
          have S2 := Lib.hid s2
          clear s2
          go_wp2_with fail
          refine (S2.out.byte10 (by rw [List.length_append, len_size]; omega)).mono ?_
          rintro e w3 ⟨rfl, s3⟩
          have S3 := Lib.hid s3
          clear s3
          go_wp2_with fail
          go_roundw
          case rel => exact ⟨k + 1, _, by go_num, by omega, S3.out, N.out, by rw [List.length_append, List.length_append, len_size]; simp; omega⟩
          case measure => simp [intOf]; omega
        · have EE := Lib.hid he
          have hne : ((errL d x.data.toList : Nat) : Int) ≠ 0 := by omega
          have N : Hid (([], errL d x.data.toList) = (T.data.toList, E)) := Lib.hid (by rw [← M.out, DS.out, many_cons, if_neg he])
          clear he
          have n1 : T = ⟨#[]⟩ := ba_ext (Prod.mk.inj N.out).1.symm
          have n2 : errL d x.data.toList = E := (Prod.mk.inj N.out).2
          subst n1
          have N2 := Lib.hid n2
          clear n2 N
          go_wp2_with fail
          refine (print_err d x _ EE.out).mono ?_
          rw [N2.out]
          rw [N2.out] at hne
          have hq : (((E : Nat) : Int) != 0) = true := by simpa using hne
          rintro e w1 ⟨rfl, b1⟩
          have S1 := Lib.hid (S.out.below b1)
          clear b1
          go_wp2_with fail
          go_ret2
          exact ⟨rfl, S1.out.bel⟩
    · have N : Hid ((acc, 0) = (T.data.toList, E)) := Lib.hid (by
        rw [← M.out, List.drop_eq_nil_of_le (by rw [List.length_map, HL.out]; omega), many_nil])
      have n1 : T = ⟨acc.toArray⟩ := ba_ext (Prod.mk.inj N.out).1.symm
      have n2 : 0 = E := (Prod.mk.inj N.out).2
      subst n1 n2
      go_wp2_with fail
      refine S.out.string.mono ?_
      rintro e w1 ⟨rfl, b1⟩
      have B1 := Lib.hid b1
      clear b1
      go_wp2_with fail
      go_ret2
      exact ⟨rfl, B1.out⟩
end Go.Proofs.Ytejoilnlioekcaa
