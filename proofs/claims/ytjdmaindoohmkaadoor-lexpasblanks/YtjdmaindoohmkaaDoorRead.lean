/-
  note.Read, walked.
-/
import Derived.Test.YtjdmaindoohmkaaDoorRefP
import Derived.Deep.RegionHeld3
namespace Go.Proofs.YtjdmaindoohmkaaDoor
open Go.RowKit

/-- What is told of what was read. -/
def ans (r : List UInt8 × Nat × Nat) : Value := .tuple #[.string ⟨r.1.toArray⟩, .int .i64 (r.2.1 : Nat), .int .i64 (r.2.2 : Nat)]
/-- What stands behind the opening. -/
def restA (d : Int) (s : ByteArray) : ByteArray := ⟨(s.data.toList.drop (opL d).length).toArray⟩
theorem restA_l (d : Int) (s : ByteArray) : (restA d s).data.toList = s.data.toList.drop (opL d).length := rfl
theorem cut_yes (d : Int) (s : ByteArray) (w : World) (h : begs d s.data.toList = true) :
    Calls Tryd.prog 99 #[.string s, .string (opA d)] w fun e w' => e = .returned (.tuple #[.string (restA d s), .bool true]) ∧ w' = w := by
  have := Tryd.strings_CutPrefix s (opA d) w
  unfold begs at h
  unfold Lib.trimPrefix at this
  rw [opA_l, h, if_pos rfl] at this
  exact this
theorem cut_no (d : Int) (s : ByteArray) (w : World) (h : begs d s.data.toList = false) :
    Calls Tryd.prog 99 #[.string s, .string (opA d)] w fun e w' => (∃ t, e = .returned (.tuple #[.string t, .bool false])) ∧ w' = w := by
  have := Tryd.strings_CutPrefix s (opA d) w
  unfold begs at h
  rw [opA_l, h] at this
  exact this.mono fun _ _ ⟨h1, h2⟩ => ⟨⟨_, h1⟩, h2⟩
theorem ans_ok (acc : List UInt8) (x : Int) (m : Nat) (h : x = m) : Ending.returned (.tuple #[.string ⟨acc.toArray⟩, .int .i64 x, .int .i64 0]) = .returned (ans (acc, m, 0)) := by
  subst h; rfl
theorem rd_nil (d : Int) (sh : Bool) (acc : List UInt8) (u : Nat) : rd d [] sh acc u = ([], 0, 8) := by cases sh <;> rfl
theorem rd_t (d : Int) (c : UInt8) (r acc : List UInt8) (u : Nat) : rd d (c :: r) true acc u = if (c == 92 || c == cl0 d) = true then (if acc.length = 1024 then ([], 0, 3) else rd d r false (acc ++ [c]) (u + 1)) else ([], 0, 8) := rfl
theorem rd_f (d : Int) (c : UInt8) (r acc : List UInt8) (u : Nat) : rd d (c :: r) false acc u = if clos d (c :: r) = true then (acc, u + (clL d).length, 0)
    else if (c == 92) = true then rd d r true acc (u + 1)
    else if okB c = false then ([], 0, 8)
    else if acc.length = 1024 then ([], 0, 3)
    else rd d r false (acc ++ [c]) (u + 1) := rfl
theorem high_ne (c : UInt8) (n : UInt8) (h : ¬ c.toNat < 128) (hn : n.toNat < 128) : (c == n) = false := by
  simp; intro e; rw [e] at h; exact h hn
theorem high_clos (d : Int) (hd : Dia d) (c : UInt8) (r : List UInt8) (h : ¬ c.toNat < 128) : clos d (c :: r) = false := by
  rcases hd with rfl | rfl
  · rw [clos0]; have := high_ne c 125 h (by decide); rw [show ((125 : UInt8) == c) = (c == 125) from Bool.beq_comm ..]; exact this
  · rw [clos1]; have := high_ne c 42 h (by decide); rw [show ((42 : UInt8) == c) = (c == 42) from Bool.beq_comm .., this]; rfl

theorem Bld.drew {w0 wr : World} {B k pos : Nat} {s : ByteArray} {acc : List UInt8} (h : Bld w0 B k s pos acc wr) : Bld w0 B k s pos acc wr.drew :=
  ⟨h.bld, h.it, ⟨h.bel.os, h.bel.tape, h.bel.output, h.bel.size, h.bel.block⟩, h.lt⟩
theorem Str.call {nb : Nat} {op cl : ByteArray} {w0 wr : World} {B k : Nat} {s : ByteArray} {pos : Nat} {acc : List UInt8} (hn : nb < B)
    (h : wr.cell? ⟨nb, 0, none⟩ = some (.string op) ∧ wr.cell? ⟨nb, 1, none⟩ = some (.string cl) ∧ Bld w0 B k s pos acc wr) :
    Calls Tryd.prog 64 #[.pointer (some ⟨B, 0, none⟩)] wr fun e w' => e = .returned (.string ⟨acc.toArray⟩) ∧ (w'.cell? ⟨nb, 0, none⟩ = some (.string op) ∧ w'.cell? ⟨nb, 1, none⟩ = some (.string cl) ∧ Bld w0 B k s pos acc w') := by
  refine h.2.2.string.mono ?_
  rintro e w' ⟨rfl, h2⟩
  refine ⟨rfl, ?_, ?_, h2⟩
  · rw [h2.cell _ _ hn, ← h.2.2.cell _ _ hn]; exact h.1
  · rw [h2.cell _ _ hn, ← h.2.2.cell _ _ hn]; exact h.2.1
theorem clos_size (d : Int) (R : ByteArray) (k : Nat) (h : clos d (R.data.toList.drop k) = true) : k + (clL d).length ≤ R.size := by
  have h1 := (List.isPrefixOf_iff_prefix.1 h).length_le
  rw [List.length_drop, len_size] at h1
  have h2 : 0 < (clL d).length := by unfold clL; split <;> simp
  omega
set_option maxHeartbeats 400000 in
theorem read_no (d : Int) (s : ByteArray) (w : World) (hd : ¬ Dia d) :
    Calls Tryd.prog 83 #[.int .i64 d, .string s] w fun e w' => e = .returned (ans ([], 0, 1)) ∧ Below w.heap.size w w' := by
  go_enter Tryd.func83, Tryd.ntmps83
  go_wp2_with fail
  refine (brackets_no d hd _).mono ?_
  rintro e w1 ⟨rfl, b1⟩
  have B1 := Lib.hid b1
  clear b1
  go_wp2_with fail
  go_ret3
  exact ⟨rfl, B1.out.alloc B1.out.size _⟩
set_option maxHeartbeats 400000 in
theorem read_not (d : Int) (s : ByteArray) (w : World) (hd : Dia d) (hb : begs d s.data.toList = false) :
    Calls Tryd.prog 83 #[.int .i64 d, .string s] w fun e w' => e = .returned (ans ([], 0, 8)) ∧ Below w.heap.size w w' := by
  have HB := Lib.hid hb
  clear hb
  go_enter Tryd.func83, Tryd.ntmps83
  go_wp2_with fail
  refine (brackets_yes d hd _).mono ?_
  rintro e w1 ⟨rfl, b1⟩
  have B1 := Lib.hid b1
  clear b1
  go_wp2_with fail
  refine (cut_no d s _ HB.out).mono ?_
  rintro e w2 ⟨⟨t, rfl⟩, rfl⟩
  go_wp2_with fail
  go_ret3
  exact ⟨rfl, B1.out.alloc B1.out.size _⟩
set_option maxHeartbeats 2000000 in
theorem read_yes0 (s R : ByteArray) (res : List UInt8 × Nat × Nat) (w : World) (hR : restA 0 s = R) (hres : rd 0 R.data.toList false [] 1 = res) (hs : R.size + 1 ≤ maxLen) (hb : begs 0 s.data.toList = true) :
    Calls Tryd.prog 83 #[.int .i64 0, .string s] w fun e w' => e = .returned (ans res) ∧ Below w.heap.size w w' := by
  unfold maxLen at hs
  have HB := Lib.hid hb
  have HR := Lib.hid hR
  have RS := Lib.hid hres
  clear hb hR hres
  go_enter Tryd.func83, Tryd.ntmps83
  go_wp2_with fail
  refine (brackets_0 _).mono ?_
  rintro e w1 ⟨rfl, b1⟩
  have B1 := Lib.hid b1
  clear b1
  rw [opA_0, clA_0]
  go_wp2_with fail
  refine (cut_yes 0 s _ HB.out).mono ?_
  rw [HR.out]
  rintro e w2 ⟨rfl, rfl⟩
  have c1 : (w1.alloc (.cells #[.string ⟨#[123]⟩, .string ⟨#[125]⟩] 108)).cell? ⟨w1.heap.size, 1, none⟩ = some (.string ⟨#[125]⟩) := by rw [cell_new]; rfl
  have c0 : (w1.alloc (.cells #[.string ⟨#[123]⟩, .string ⟨#[125]⟩] 108)).cell? ⟨w1.heap.size, 0, none⟩ = some (.string ⟨#[123]⟩) := by rw [cell_new]; rfl
  have hz : w1.heap.size < (w1.alloc (.cells #[.string ⟨#[123]⟩, .string ⟨#[125]⟩] 108)).heap.size := by simp
  have BB := Lib.hid (B1.out.alloc B1.out.size (.cells #[.string ⟨#[123]⟩, .string ⟨#[125]⟩] 108))
  generalize w1.alloc (.cells #[.string ⟨#[123]⟩, .string ⟨#[125]⟩] 108) = w2 at c1 c0 hz BB ⊢
  have ST := Lib.hid (show Bld w2 w2.heap.size (w2.heap.size + 1) R 0 [] ((w2.alloc (.cells #[.pointer none, .slice none 0 0] 90)).iter R 0) by
    have h := Bld.begin (w0 := w2) (w1 := w2.alloc (.cells #[.pointer none, .slice none 0 0] 90)) (s := R) (acc := []) (Lib.IsBuilderF.of (Lib.fresh_isBuilder 90 5 w2)) ((Below.refl _ _).alloc (Nat.le_refl _) _) (by simp)
    rw [show (w2.alloc (.cells #[.pointer none, .slice none 0 0] 90)).heap.size = w2.heap.size + 1 by simp] at h
    exact h)
  go_wp2_with fail
  go_loopw [11] (fun sh wr => ∃ (b : Bool) (pos : Nat) (acc : List UInt8), sh = .bool b ∧ Bld w2 w2.heap.size (w2.heap.size + 1) R pos acc wr ∧ rd 0 (R.data.toList.drop pos) b acc (1 + pos) = res ∧ acc.length ≤ 1024 ∧ pos ≤ R.size) (fun _ wr => R.size - wr.iterPos (w2.heap.size + 1))
  case atStart => exact ⟨false, 0, [], rfl, ST.out, RS.out, by decide, Nat.zero_le _⟩
  case round =>
    obtain ⟨b, pos, acc, rfl, hst, hrd, hal, hps⟩ := hrel
    have S := Lib.hid hst
    have RD := Lib.hid hrd
    clear hst hrd ST RS
    by_cases hp : pos < R.size
    · have DB := Lib.hid (drop_bt R pos hp)
      by_cases hlow : (bt R pos).toNat < 128
      · have hnx := S.out.nextLow hp hlow
        have s1 := S.out.next (pos + 1)
        have S1 := Lib.hid s1
        have hc1 : (wr.iterAt (w2.heap.size + 1) R (pos + 1)).cell? ⟨w1.heap.size, 1, none⟩ = some (.string ⟨#[125]⟩) := by rw [S1.out.cell _ _ hz]; exact c1
        have hc0 : (wr.iterAt (w2.heap.size + 1) R (pos + 1)).cell? ⟨w1.heap.size, 0, none⟩ = some (.string ⟨#[123]⟩) := by rw [S1.out.cell _ _ hz]; exact c0
        clear s1
        generalize wr.iterAt (w2.heap.size + 1) R (pos + 1) = wn at hnx S1 hc1 hc0
        have e92 : (((bt R pos).toNat : Int) == 92) = (bt R pos == 92) := eqb _ 92 (by decide)
        have n92 : (((bt R pos).toNat : Int) != 92) = !(bt R pos == 92) := by unfold bne; rw [e92]
        have nc0 : (((bt R pos).toNat : Int) != wrap32 (((ByteArray.mk #[125])[0]'(by decide)).toNat : Nat)) = !(bt R pos == 125) := by
          rw [show wrap32 (((ByteArray.mk #[125])[0]'(by decide)).toNat : Nat) = 125 from IntWalk.wrap32_in 125 (by omega)]
          unfold bne; rw [show (((bt R pos).toNat : Int) == 125) = (bt R pos == 125) from eqb _ 125 (by decide)]
        cases b with
        | true =>
          have X : Hid (res = if (bt R pos == 92 || bt R pos == 125) = true then (if acc.length = 1024 then ([], 0, 3) else rd 0 (R.data.toList.drop (pos + 1)) false (acc ++ [bt R pos]) (1 + (pos + 1))) else ([], 0, 8)) := Lib.hid (by
            rw [← RD.out, DB.out, rd_t]; rfl)
          cases h1 : (bt R pos == 92) with
          | true =>
            rw [h1] at e92 n92
            have H1 := Lib.hid h1
            clear h1 nc0
            by_cases hfull : acc.length = 1024
            · have F : Hid (res = ([], 0, 3)) := Lib.hid (by rw [X.out, H1.out, if_pos (by rfl), if_pos hfull])
              have hf : (((acc.length : Nat) : Int) == 1024) = true := by simp; omega
              clear hfull
              go_wp2_with fail
              refine (S1.out.len).mono ?_
              rintro e w5 ⟨rfl, rfl⟩
              go_wp2_with fail
              go_ret3
              refine ⟨?_, BB.out.trans (S1.out.bel.mono BB.out.size)⟩
              rw [F.out]
              rfl
            · have F : Hid (rd 0 (R.data.toList.drop (pos + 1)) false (acc ++ [bt R pos]) (1 + (pos + 1)) = res) := Lib.hid (by rw [X.out, H1.out, if_pos (by rfl), if_neg hfull])
              have hf : (((acc.length : Nat) : Int) == 1024) = false := by simp; omega
              have hal2 : acc.length + 1 ≤ 1024 := by omega
              clear hfull
              go_wp2_with fail
              refine (S1.out.len).mono ?_
              rintro e w5 ⟨rfl, rfl⟩
              go_wp2_with fail
              refine (S1.out.writeRune (bt R pos) hlow (by omega)).mono ?_
              rintro e w6 ⟨rfl, s6⟩
              have S6 := Lib.hid s6
              clear s6
              go_wp2_with fail
              go_roundw
              case rel => exact ⟨false, pos + 1, _, rfl, S6.out, F.out, by simp; omega, hp⟩
              case measure => rw [S6.out.pos, S.out.pos]; omega
          | false =>
            rw [h1] at e92 n92
            have H1 := Lib.hid h1
            clear h1
            cases h2 : (bt R pos == 125) with
            | true =>
              rw [h2] at nc0
              have H2 := Lib.hid h2
              clear h2
              by_cases hfull : acc.length = 1024
              · have F : Hid (res = ([], 0, 3)) := Lib.hid (by rw [X.out, H1.out, H2.out, if_pos (by rfl), if_pos hfull])
                have hf : (((acc.length : Nat) : Int) == 1024) = true := by simp; omega
                clear hfull
                go_wp2_with fail
                refine (S1.out.len).mono ?_
                rintro e w5 ⟨rfl, rfl⟩
                go_wp2_with fail
                go_ret3
                refine ⟨?_, BB.out.trans (S1.out.bel.mono BB.out.size)⟩
                rw [F.out]
                rfl
              · have F : Hid (rd 0 (R.data.toList.drop (pos + 1)) false (acc ++ [bt R pos]) (1 + (pos + 1)) = res) := Lib.hid (by rw [X.out, H1.out, H2.out, if_pos (by rfl), if_neg hfull])
                have hf : (((acc.length : Nat) : Int) == 1024) = false := by simp; omega
                have hal2 : acc.length + 1 ≤ 1024 := by omega
                clear hfull
                go_wp2_with fail
                refine (S1.out.len).mono ?_
                rintro e w5 ⟨rfl, rfl⟩
                go_wp2_with fail
                refine (S1.out.writeRune (bt R pos) hlow (by omega)).mono ?_
                rintro e w6 ⟨rfl, s6⟩
                have S6 := Lib.hid s6
                clear s6
                go_wp2_with fail
                go_roundw
                case rel => exact ⟨false, pos + 1, _, rfl, S6.out, F.out, by simp; omega, hp⟩
                case measure => rw [S6.out.pos, S.out.pos]; omega
            | false =>
              rw [h2] at nc0
              have H2 := Lib.hid h2
              clear h2
              have F : Hid (res = ([], 0, 8)) := Lib.hid (by rw [X.out, H1.out, H2.out, if_neg (by decide)])
              go_wp2_with fail
              go_ret3
              refine ⟨?_, BB.out.trans (S1.out.bel.mono BB.out.size)⟩
              rw [F.out]
              rfl
        | false =>
          have X : Hid (res = if clos 0 (R.data.toList.drop pos) = true then (acc, 1 + pos + 1, 0)
              else if (bt R pos == 92) = true then rd 0 (R.data.toList.drop (pos + 1)) true acc (1 + (pos + 1))
              else if okB (bt R pos) = false then ([], 0, 8)
              else if acc.length = 1024 then ([], 0, 3)
              else rd 0 (R.data.toList.drop (pos + 1)) false (acc ++ [bt R pos]) (1 + (pos + 1))) := Lib.hid (by
            rw [← RD.out, DB.out, rd_f]; rfl)
          clear nc0 n92
          cases hcl : clos 0 (R.data.toList.drop pos) with
          | true =>
            have CL := Lib.hid hcl
            clear hcl
            have F : Hid (res = (acc, 1 + pos + 1, 0)) := Lib.hid (by rw [X.out, CL.out, if_pos rfl])
            have hpe : pos + 1 ≤ R.size := clos_size 0 R pos CL.out
            have hq : ∀ w, Calls Tryd.prog 82 #[.string (R.extract pos R.size), .string ⟨#[125]⟩] w fun e w' => e = .returned (.bool true) ∧ w' = w := fun w => has_yes R pos 0 w CL.out
            have HQ := Lib.hid hq
            clear hq e92
            have hst := fun w1' => @Str.call w1.heap.size ⟨#[123]⟩ ⟨#[125]⟩ w2 w1' w2.heap.size (w2.heap.size + 1) R (pos + 1) acc hz
            have STR := Lib.hid hst
            clear hst
            have i1 : IntKind.i64.wrap (1 + (pos : Int)) = 1 + (pos : Int) := IntWalk.i64_in _ (by omega)
            have i2 : IntKind.i64.wrap (1 + (pos : Int) + 1) = 1 + (pos : Int) + 1 := IntWalk.i64_in _ (by omega)
            have I1 := Lib.hid i1
            have I2 := Lib.hid i2
            clear i1 i2
            go_wp2_with fail
            go_quiet ((go_at_call 82; exact Calls.quiet_of_same (HQ.out _)))
            go_wp2_with fail
            have i1 := I1.out
            have i2 := I2.out
            go_region_held3 (fun w' => w'.cell? ⟨w1.heap.size, 0, none⟩ = some (.string ⟨#[123]⟩) ∧ w'.cell? ⟨w1.heap.size, 1, none⟩ = some (.string ⟨#[125]⟩) ∧ Bld w2 w2.heap.size (w2.heap.size + 1) R (pos + 1) acc w')
              (first | assumption | exact ⟨hc0, hc1, (S1.out.drewN _).drew⟩)
              (first | (go_at_call 64; refine (STR.out _ ?_).mono ?_; assumption; rintro e w7 ⟨rfl, s7⟩))
            have S7 := Lib.hid s7.2.2
            clear s7 i1 i2
            go_wp2_with fail
            go_ret3
            refine ⟨Eq.trans (ans_ok acc _ (1 + pos + 1) (by omega)) (by rw [F.out]), BB.out.trans (S7.out.bel.mono BB.out.size)⟩
          | false =>
            have CL := Lib.hid hcl
            clear hcl
            have hq : ∀ w, Calls Tryd.prog 82 #[.string (R.extract pos R.size), .string ⟨#[125]⟩] w fun e w' => e = .returned (.bool false) ∧ w' = w := fun w => has_no R pos 0 w CL.out
            have HQ := Lib.hid hq
            clear hq
            cases h1 : (bt R pos == 92) with
            | true =>
              rw [h1] at e92
              have F : Hid (rd 0 (R.data.toList.drop (pos + 1)) true acc (1 + (pos + 1)) = res) := Lib.hid (by rw [X.out, CL.out, h1, if_neg (by decide), if_pos rfl])
              clear h1
              go_wp2_with fail
              go_quiet ((go_at_call 82; exact Calls.quiet_of_same (HQ.out _)))
              go_wp2_with fail
              go_roundw
              case rel => exact ⟨true, pos + 1, _, rfl, S1.out.drewN _, F.out, hal, hp⟩
              case measure => rw [(S1.out.drewN _).pos, S.out.pos]; omega
            | false =>
              rw [h1] at e92
              have H1 := Lib.hid h1
              clear h1
              go_wp2_with fail
              go_quiet ((go_at_call 82; exact Calls.quiet_of_same (HQ.out _)))
              go_wp2_with fail
              refine (may_any _ _).mono ?_
              cases hok : okB (bt R pos) with
              | true =>
                have OK := Lib.hid hok
                rw [show okZ ((bt R pos).toNat : Int) = true from hok]
                clear hok
                rintro e w4 ⟨rfl, rfl⟩
                have S2 := Lib.hid (S1.out.drewN nq)
                by_cases hfull : acc.length = 1024
                · have F : Hid (res = ([], 0, 3)) := Lib.hid (by rw [X.out, CL.out, if_neg (by decide), H1.out, if_neg (by decide), OK.out, if_neg (by decide), if_pos hfull])
                  have hf : (((acc.length : Nat) : Int) == 1024) = true := by simp; omega
                  clear hfull
                  go_wp2_with fail
                  refine (S2.out.len).mono ?_
                  rintro e w5 ⟨rfl, rfl⟩
                  go_wp2_with fail
                  go_ret3
                  refine ⟨?_, BB.out.trans (S2.out.bel.mono BB.out.size)⟩
                  rw [F.out]
                  rfl
                · have F : Hid (rd 0 (R.data.toList.drop (pos + 1)) false (acc ++ [bt R pos]) (1 + (pos + 1)) = res) := Lib.hid (by rw [X.out, CL.out, if_neg (by decide), H1.out, if_neg (by decide), OK.out, if_neg (by decide), if_neg hfull])
                  have hf : (((acc.length : Nat) : Int) == 1024) = false := by simp; omega
                  have hal2 : acc.length + 1 ≤ 1024 := by omega
                  clear hfull
                  go_wp2_with fail
                  refine (S2.out.len).mono ?_
                  rintro e w5 ⟨rfl, rfl⟩
                  go_wp2_with fail
                  refine (S2.out.writeRune (bt R pos) hlow (by omega)).mono ?_
                  rintro e w6 ⟨rfl, s6⟩
                  have S6 := Lib.hid s6
                  clear s6
                  go_wp2_with fail
                  go_roundw
                  case rel => exact ⟨false, pos + 1, _, rfl, S6.out, F.out, by simp; omega, hp⟩
                  case measure => rw [S6.out.pos, S.out.pos]; omega
              | false =>
                have OK := Lib.hid hok
                rw [show okZ ((bt R pos).toNat : Int) = false from hok]
                clear hok
                rintro e w4 ⟨rfl, rfl⟩
                have S2 := Lib.hid (S1.out.drewN nq)
                have F : Hid (res = ([], 0, 8)) := Lib.hid (by rw [X.out, CL.out, if_neg (by decide), H1.out, if_neg (by decide), OK.out, if_pos rfl])
                go_wp2_with fail
                go_ret3
                refine ⟨?_, BB.out.trans (S2.out.bel.mono BB.out.size)⟩
                rw [F.out]
                rfl
      · have hnx : ∀ ty, (Instr.next (.pointer (some ⟨w2.heap.size + 1, 0, none⟩)) true ty).run Tryd.prog wr = _ := fun ty => Lib.run_next_any_at wr (w2.heap.size + 1) R pos ty S.out.it hp
        have hh := (decode_high R pos hp (by rw [bt_eq R pos hp]; omega)).1
        have S1 := Lib.hid (S.out.next (pos + (Utf8.decode R pos).2))
        have hc1 : (wr.iterAt (w2.heap.size + 1) R (pos + (Utf8.decode R pos).2)).cell? ⟨w1.heap.size, 1, none⟩ = some (.string ⟨#[125]⟩) := by rw [S1.out.cell _ _ hz]; exact c1
        generalize wr.iterAt (w2.heap.size + 1) R (pos + (Utf8.decode R pos).2) = wn at hnx S1 hc1
        generalize (Utf8.decode R pos).2 = qw at S1
        generalize (Utf8.decode R pos).1 = q at hnx hh
        have e92 : ((q : Int) == 92) = false := by simp; omega
        have n92 : ((q : Int) != 92) = true := by simp; omega
        have nc0 : ((q : Int) != wrap32 (((ByteArray.mk #[125])[0]'(by decide)).toNat : Nat)) = true := by
          rw [show wrap32 (((ByteArray.mk #[125])[0]'(by decide)).toNat : Nat) = 125 from IntWalk.wrap32_in 125 (by omega)]
          simp; omega
        cases b with
        | true =>
          have F : Hid (res = ([], 0, 8)) := Lib.hid (by
            rw [← RD.out, DB.out, rd_t, high_ne _ 92 hlow (by decide), show cl0 0 = 125 from rfl, high_ne _ 125 hlow (by decide)]; rfl)
          go_wp2_with fail
          go_ret3
          refine ⟨?_, BB.out.trans (S1.out.bel.mono BB.out.size)⟩
          rw [F.out]
          rfl
        | false =>
          have CL := Lib.hid (high_clos 0 (by unfold Dia; omega) (bt R pos) (R.data.toList.drop (pos + 1)) hlow)
          have F : Hid (res = ([], 0, 8)) := Lib.hid (by
            rw [← RD.out, DB.out, rd_f, CL.out, if_neg (by decide), high_ne _ 92 hlow (by decide), if_neg (by decide), if_pos (show okB (bt R pos) = false from high_bad _ (by omega))])
          have hq : ∀ w, Calls Tryd.prog 82 #[.string (R.extract pos R.size), .string ⟨#[125]⟩] w fun e w' => e = .returned (.bool false) ∧ w' = w := fun w => has_no R pos 0 w (by rw [DB.out]; exact CL.out)
          have HQ := Lib.hid hq
          clear hq
          go_wp2_with fail
          go_quiet ((go_at_call 82; exact Calls.quiet_of_same (HQ.out _)))
          go_wp2_with fail
          refine (may_any _ _).mono ?_
          rw [high_bad _ hh]
          rintro e w4 ⟨rfl, rfl⟩
          go_wp2_with fail
          go_ret3
          refine ⟨?_, BB.out.trans ((S1.out.drewN _).bel.mono BB.out.size)⟩
          rw [F.out]
          rfl
    · have hnx : ∀ ty, (Instr.next (.pointer (some ⟨w2.heap.size + 1, 0, none⟩)) true ty).run Tryd.prog wr = _ := fun ty => Lib.run_next_end_at wr (w2.heap.size + 1) R pos ty S.out.it hp
      have F : Hid (res = ([], 0, 8)) := Lib.hid (by rw [← RD.out, drop_end R pos hp, rd_nil])
      go_wp2_with fail
      go_ret3
      refine ⟨?_, BB.out.trans (S.out.bel.mono BB.out.size)⟩
      rw [F.out]
      rfl
set_option maxHeartbeats 2000000 in
theorem read_yes1 (s R : ByteArray) (res : List UInt8 × Nat × Nat) (w : World) (hR : restA 1 s = R) (hres : rd 1 R.data.toList false [] 2 = res) (hs : R.size + 2 ≤ maxLen) (hb : begs 1 s.data.toList = true) :
    Calls Tryd.prog 83 #[.int .i64 1, .string s] w fun e w' => e = .returned (ans res) ∧ Below w.heap.size w w' := by
  unfold maxLen at hs
  have HB := Lib.hid hb
  have HR := Lib.hid hR
  have RS := Lib.hid hres
  clear hb hR hres
  go_enter Tryd.func83, Tryd.ntmps83
  go_wp2_with fail
  refine (brackets_1 _).mono ?_
  rintro e w1 ⟨rfl, b1⟩
  have B1 := Lib.hid b1
  clear b1
  rw [opA_1, clA_1]
  go_wp2_with fail
  refine (cut_yes 1 s _ HB.out).mono ?_
  rw [HR.out]
  rintro e w2 ⟨rfl, rfl⟩
  have c1 : (w1.alloc (.cells #[.string ⟨#[47, 42]⟩, .string ⟨#[42, 47]⟩] 108)).cell? ⟨w1.heap.size, 1, none⟩ = some (.string ⟨#[42, 47]⟩) := by rw [cell_new]; rfl
  have c0 : (w1.alloc (.cells #[.string ⟨#[47, 42]⟩, .string ⟨#[42, 47]⟩] 108)).cell? ⟨w1.heap.size, 0, none⟩ = some (.string ⟨#[47, 42]⟩) := by rw [cell_new]; rfl
  have hz : w1.heap.size < (w1.alloc (.cells #[.string ⟨#[47, 42]⟩, .string ⟨#[42, 47]⟩] 108)).heap.size := by simp
  have BB := Lib.hid (B1.out.alloc B1.out.size (.cells #[.string ⟨#[47, 42]⟩, .string ⟨#[42, 47]⟩] 108))
  generalize w1.alloc (.cells #[.string ⟨#[47, 42]⟩, .string ⟨#[42, 47]⟩] 108) = w2 at c1 c0 hz BB ⊢
  have ST := Lib.hid (show Bld w2 w2.heap.size (w2.heap.size + 1) R 0 [] ((w2.alloc (.cells #[.pointer none, .slice none 0 0] 90)).iter R 0) by
    have h := Bld.begin (w0 := w2) (w1 := w2.alloc (.cells #[.pointer none, .slice none 0 0] 90)) (s := R) (acc := []) (Lib.IsBuilderF.of (Lib.fresh_isBuilder 90 5 w2)) ((Below.refl _ _).alloc (Nat.le_refl _) _) (by simp)
    rw [show (w2.alloc (.cells #[.pointer none, .slice none 0 0] 90)).heap.size = w2.heap.size + 1 by simp] at h
    exact h)
  go_wp2_with fail
  go_loopw [11] (fun sh wr => ∃ (b : Bool) (pos : Nat) (acc : List UInt8), sh = .bool b ∧ Bld w2 w2.heap.size (w2.heap.size + 1) R pos acc wr ∧ rd 1 (R.data.toList.drop pos) b acc (2 + pos) = res ∧ acc.length ≤ 1024 ∧ pos ≤ R.size) (fun _ wr => R.size - wr.iterPos (w2.heap.size + 1))
  case atStart => exact ⟨false, 0, [], rfl, ST.out, RS.out, by decide, Nat.zero_le _⟩
  case round =>
    obtain ⟨b, pos, acc, rfl, hst, hrd, hal, hps⟩ := hrel
    have S := Lib.hid hst
    have RD := Lib.hid hrd
    clear hst hrd ST RS
    by_cases hp : pos < R.size
    · have DB := Lib.hid (drop_bt R pos hp)
      by_cases hlow : (bt R pos).toNat < 128
      · have hnx := S.out.nextLow hp hlow
        have s1 := S.out.next (pos + 1)
        have S1 := Lib.hid s1
        have hc1 : (wr.iterAt (w2.heap.size + 1) R (pos + 1)).cell? ⟨w1.heap.size, 1, none⟩ = some (.string ⟨#[42, 47]⟩) := by rw [S1.out.cell _ _ hz]; exact c1
        have hc0 : (wr.iterAt (w2.heap.size + 1) R (pos + 1)).cell? ⟨w1.heap.size, 0, none⟩ = some (.string ⟨#[47, 42]⟩) := by rw [S1.out.cell _ _ hz]; exact c0
        clear s1
        generalize wr.iterAt (w2.heap.size + 1) R (pos + 1) = wn at hnx S1 hc1 hc0
        have e92 : (((bt R pos).toNat : Int) == 92) = (bt R pos == 92) := eqb _ 92 (by decide)
        have n92 : (((bt R pos).toNat : Int) != 92) = !(bt R pos == 92) := by unfold bne; rw [e92]
        have nc0 : (((bt R pos).toNat : Int) != wrap32 (((ByteArray.mk #[42, 47])[0]'(by decide)).toNat : Nat)) = !(bt R pos == 42) := by
          rw [show wrap32 (((ByteArray.mk #[42, 47])[0]'(by decide)).toNat : Nat) = 42 from IntWalk.wrap32_in 42 (by omega)]
          unfold bne; rw [show (((bt R pos).toNat : Int) == 42) = (bt R pos == 42) from eqb _ 42 (by decide)]
        cases b with
        | true =>
          have X : Hid (res = if (bt R pos == 92 || bt R pos == 42) = true then (if acc.length = 1024 then ([], 0, 3) else rd 1 (R.data.toList.drop (pos + 1)) false (acc ++ [bt R pos]) (2 + (pos + 1))) else ([], 0, 8)) := Lib.hid (by
            rw [← RD.out, DB.out, rd_t]; rfl)
          cases h1 : (bt R pos == 92) with
          | true =>
            rw [h1] at e92 n92
            have H1 := Lib.hid h1
            clear h1 nc0
            by_cases hfull : acc.length = 1024
            · have F : Hid (res = ([], 0, 3)) := Lib.hid (by rw [X.out, H1.out, if_pos (by rfl), if_pos hfull])
              have hf : (((acc.length : Nat) : Int) == 1024) = true := by simp; omega
              clear hfull
              go_wp2_with fail
              refine (S1.out.len).mono ?_
              rintro e w5 ⟨rfl, rfl⟩
              go_wp2_with fail
              go_ret3
              refine ⟨?_, BB.out.trans (S1.out.bel.mono BB.out.size)⟩
              rw [F.out]
              rfl
            · have F : Hid (rd 1 (R.data.toList.drop (pos + 1)) false (acc ++ [bt R pos]) (2 + (pos + 1)) = res) := Lib.hid (by rw [X.out, H1.out, if_pos (by rfl), if_neg hfull])
              have hf : (((acc.length : Nat) : Int) == 1024) = false := by simp; omega
              have hal2 : acc.length + 1 ≤ 1024 := by omega
              clear hfull
              go_wp2_with fail
              refine (S1.out.len).mono ?_
              rintro e w5 ⟨rfl, rfl⟩
              go_wp2_with fail
              refine (S1.out.writeRune (bt R pos) hlow (by omega)).mono ?_
              rintro e w6 ⟨rfl, s6⟩
              have S6 := Lib.hid s6
              clear s6
              go_wp2_with fail
              go_roundw
              case rel => exact ⟨false, pos + 1, _, rfl, S6.out, F.out, by simp; omega, hp⟩
              case measure => rw [S6.out.pos, S.out.pos]; omega
          | false =>
            rw [h1] at e92 n92
            have H1 := Lib.hid h1
            clear h1
            cases h2 : (bt R pos == 42) with
            | true =>
              rw [h2] at nc0
              have H2 := Lib.hid h2
              clear h2
              by_cases hfull : acc.length = 1024
              · have F : Hid (res = ([], 0, 3)) := Lib.hid (by rw [X.out, H1.out, H2.out, if_pos (by rfl), if_pos hfull])
                have hf : (((acc.length : Nat) : Int) == 1024) = true := by simp; omega
                clear hfull
                go_wp2_with fail
                refine (S1.out.len).mono ?_
                rintro e w5 ⟨rfl, rfl⟩
                go_wp2_with fail
                go_ret3
                refine ⟨?_, BB.out.trans (S1.out.bel.mono BB.out.size)⟩
                rw [F.out]
                rfl
              · have F : Hid (rd 1 (R.data.toList.drop (pos + 1)) false (acc ++ [bt R pos]) (2 + (pos + 1)) = res) := Lib.hid (by rw [X.out, H1.out, H2.out, if_pos (by rfl), if_neg hfull])
                have hf : (((acc.length : Nat) : Int) == 1024) = false := by simp; omega
                have hal2 : acc.length + 1 ≤ 1024 := by omega
                clear hfull
                go_wp2_with fail
                refine (S1.out.len).mono ?_
                rintro e w5 ⟨rfl, rfl⟩
                go_wp2_with fail
                refine (S1.out.writeRune (bt R pos) hlow (by omega)).mono ?_
                rintro e w6 ⟨rfl, s6⟩
                have S6 := Lib.hid s6
                clear s6
                go_wp2_with fail
                go_roundw
                case rel => exact ⟨false, pos + 1, _, rfl, S6.out, F.out, by simp; omega, hp⟩
                case measure => rw [S6.out.pos, S.out.pos]; omega
            | false =>
              rw [h2] at nc0
              have H2 := Lib.hid h2
              clear h2
              have F : Hid (res = ([], 0, 8)) := Lib.hid (by rw [X.out, H1.out, H2.out, if_neg (by decide)])
              go_wp2_with fail
              go_ret3
              refine ⟨?_, BB.out.trans (S1.out.bel.mono BB.out.size)⟩
              rw [F.out]
              rfl
        | false =>
          have X : Hid (res = if clos 1 (R.data.toList.drop pos) = true then (acc, 2 + pos + 2, 0)
              else if (bt R pos == 92) = true then rd 1 (R.data.toList.drop (pos + 1)) true acc (2 + (pos + 1))
              else if okB (bt R pos) = false then ([], 0, 8)
              else if acc.length = 1024 then ([], 0, 3)
              else rd 1 (R.data.toList.drop (pos + 1)) false (acc ++ [bt R pos]) (2 + (pos + 1))) := Lib.hid (by
            rw [← RD.out, DB.out, rd_f]; rfl)
          clear nc0 n92
          cases hcl : clos 1 (R.data.toList.drop pos) with
          | true =>
            have CL := Lib.hid hcl
            clear hcl
            have F : Hid (res = (acc, 2 + pos + 2, 0)) := Lib.hid (by rw [X.out, CL.out, if_pos rfl])
            have hpe : pos + 2 ≤ R.size := clos_size 1 R pos CL.out
            have hq : ∀ w, Calls Tryd.prog 82 #[.string (R.extract pos R.size), .string ⟨#[42, 47]⟩] w fun e w' => e = .returned (.bool true) ∧ w' = w := fun w => has_yes R pos 1 w CL.out
            have HQ := Lib.hid hq
            clear hq e92
            have hst := fun w1' => @Str.call w1.heap.size ⟨#[47, 42]⟩ ⟨#[42, 47]⟩ w2 w1' w2.heap.size (w2.heap.size + 1) R (pos + 1) acc hz
            have STR := Lib.hid hst
            clear hst
            have i1 : IntKind.i64.wrap (2 + (pos : Int)) = 2 + (pos : Int) := IntWalk.i64_in _ (by omega)
            have i2 : IntKind.i64.wrap (2 + (pos : Int) + 2) = 2 + (pos : Int) + 2 := IntWalk.i64_in _ (by omega)
            have I1 := Lib.hid i1
            have I2 := Lib.hid i2
            clear i1 i2
            go_wp2_with fail
            go_quiet ((go_at_call 82; exact Calls.quiet_of_same (HQ.out _)))
            go_wp2_with fail
            have i1 := I1.out
            have i2 := I2.out
            go_region_held3 (fun w' => w'.cell? ⟨w1.heap.size, 0, none⟩ = some (.string ⟨#[47, 42]⟩) ∧ w'.cell? ⟨w1.heap.size, 1, none⟩ = some (.string ⟨#[42, 47]⟩) ∧ Bld w2 w2.heap.size (w2.heap.size + 1) R (pos + 1) acc w')
              (first | assumption | exact ⟨hc0, hc1, (S1.out.drewN _).drew⟩)
              (first | (go_at_call 64; refine (STR.out _ ?_).mono ?_; assumption; rintro e w7 ⟨rfl, s7⟩))
            have S7 := Lib.hid s7.2.2
            clear s7 i1 i2
            go_wp2_with fail
            go_ret3
            refine ⟨Eq.trans (ans_ok acc _ (2 + pos + 2) (by omega)) (by rw [F.out]), BB.out.trans (S7.out.bel.mono BB.out.size)⟩
          | false =>
            have CL := Lib.hid hcl
            clear hcl
            have hq : ∀ w, Calls Tryd.prog 82 #[.string (R.extract pos R.size), .string ⟨#[42, 47]⟩] w fun e w' => e = .returned (.bool false) ∧ w' = w := fun w => has_no R pos 1 w CL.out
            have HQ := Lib.hid hq
            clear hq
            cases h1 : (bt R pos == 92) with
            | true =>
              rw [h1] at e92
              have F : Hid (rd 1 (R.data.toList.drop (pos + 1)) true acc (2 + (pos + 1)) = res) := Lib.hid (by rw [X.out, CL.out, h1, if_neg (by decide), if_pos rfl])
              clear h1
              go_wp2_with fail
              go_quiet ((go_at_call 82; exact Calls.quiet_of_same (HQ.out _)))
              go_wp2_with fail
              go_roundw
              case rel => exact ⟨true, pos + 1, _, rfl, S1.out.drewN _, F.out, hal, hp⟩
              case measure => rw [(S1.out.drewN _).pos, S.out.pos]; omega
            | false =>
              rw [h1] at e92
              have H1 := Lib.hid h1
              clear h1
              go_wp2_with fail
              go_quiet ((go_at_call 82; exact Calls.quiet_of_same (HQ.out _)))
              go_wp2_with fail
              refine (may_any _ _).mono ?_
              cases hok : okB (bt R pos) with
              | true =>
                have OK := Lib.hid hok
                rw [show okZ ((bt R pos).toNat : Int) = true from hok]
                clear hok
                rintro e w4 ⟨rfl, rfl⟩
                have S2 := Lib.hid (S1.out.drewN nq)
                by_cases hfull : acc.length = 1024
                · have F : Hid (res = ([], 0, 3)) := Lib.hid (by rw [X.out, CL.out, if_neg (by decide), H1.out, if_neg (by decide), OK.out, if_neg (by decide), if_pos hfull])
                  have hf : (((acc.length : Nat) : Int) == 1024) = true := by simp; omega
                  clear hfull
                  go_wp2_with fail
                  refine (S2.out.len).mono ?_
                  rintro e w5 ⟨rfl, rfl⟩
                  go_wp2_with fail
                  go_ret3
                  refine ⟨?_, BB.out.trans (S2.out.bel.mono BB.out.size)⟩
                  rw [F.out]
                  rfl
                · have F : Hid (rd 1 (R.data.toList.drop (pos + 1)) false (acc ++ [bt R pos]) (2 + (pos + 1)) = res) := Lib.hid (by rw [X.out, CL.out, if_neg (by decide), H1.out, if_neg (by decide), OK.out, if_neg (by decide), if_neg hfull])
                  have hf : (((acc.length : Nat) : Int) == 1024) = false := by simp; omega
                  have hal2 : acc.length + 1 ≤ 1024 := by omega
                  clear hfull
                  go_wp2_with fail
                  refine (S2.out.len).mono ?_
                  rintro e w5 ⟨rfl, rfl⟩
                  go_wp2_with fail
                  refine (S2.out.writeRune (bt R pos) hlow (by omega)).mono ?_
                  rintro e w6 ⟨rfl, s6⟩
                  have S6 := Lib.hid s6
                  clear s6
                  go_wp2_with fail
                  go_roundw
                  case rel => exact ⟨false, pos + 1, _, rfl, S6.out, F.out, by simp; omega, hp⟩
                  case measure => rw [S6.out.pos, S.out.pos]; omega
              | false =>
                have OK := Lib.hid hok
                rw [show okZ ((bt R pos).toNat : Int) = false from hok]
                clear hok
                rintro e w4 ⟨rfl, rfl⟩
                have S2 := Lib.hid (S1.out.drewN nq)
                have F : Hid (res = ([], 0, 8)) := Lib.hid (by rw [X.out, CL.out, if_neg (by decide), H1.out, if_neg (by decide), OK.out, if_pos rfl])
                go_wp2_with fail
                go_ret3
                refine ⟨?_, BB.out.trans (S2.out.bel.mono BB.out.size)⟩
                rw [F.out]
                rfl
      · have hnx : ∀ ty, (Instr.next (.pointer (some ⟨w2.heap.size + 1, 0, none⟩)) true ty).run Tryd.prog wr = _ := fun ty => Lib.run_next_any_at wr (w2.heap.size + 1) R pos ty S.out.it hp
        have hh := (decode_high R pos hp (by rw [bt_eq R pos hp]; omega)).1
        have S1 := Lib.hid (S.out.next (pos + (Utf8.decode R pos).2))
        have hc1 : (wr.iterAt (w2.heap.size + 1) R (pos + (Utf8.decode R pos).2)).cell? ⟨w1.heap.size, 1, none⟩ = some (.string ⟨#[42, 47]⟩) := by rw [S1.out.cell _ _ hz]; exact c1
        generalize wr.iterAt (w2.heap.size + 1) R (pos + (Utf8.decode R pos).2) = wn at hnx S1 hc1
        generalize (Utf8.decode R pos).2 = qw at S1
        generalize (Utf8.decode R pos).1 = q at hnx hh
        have e92 : ((q : Int) == 92) = false := by simp; omega
        have n92 : ((q : Int) != 92) = true := by simp; omega
        have nc0 : ((q : Int) != wrap32 (((ByteArray.mk #[42, 47])[0]'(by decide)).toNat : Nat)) = true := by
          rw [show wrap32 (((ByteArray.mk #[42, 47])[0]'(by decide)).toNat : Nat) = 42 from IntWalk.wrap32_in 42 (by omega)]
          simp; omega
        cases b with
        | true =>
          have F : Hid (res = ([], 0, 8)) := Lib.hid (by
            rw [← RD.out, DB.out, rd_t, high_ne _ 92 hlow (by decide), show cl0 1 = 42 from rfl, high_ne _ 42 hlow (by decide)]; rfl)
          go_wp2_with fail
          go_ret3
          refine ⟨?_, BB.out.trans (S1.out.bel.mono BB.out.size)⟩
          rw [F.out]
          rfl
        | false =>
          have CL := Lib.hid (high_clos 1 (by unfold Dia; omega) (bt R pos) (R.data.toList.drop (pos + 1)) hlow)
          have F : Hid (res = ([], 0, 8)) := Lib.hid (by
            rw [← RD.out, DB.out, rd_f, CL.out, if_neg (by decide), high_ne _ 92 hlow (by decide), if_neg (by decide), if_pos (show okB (bt R pos) = false from high_bad _ (by omega))])
          have hq : ∀ w, Calls Tryd.prog 82 #[.string (R.extract pos R.size), .string ⟨#[42, 47]⟩] w fun e w' => e = .returned (.bool false) ∧ w' = w := fun w => has_no R pos 1 w (by rw [DB.out]; exact CL.out)
          have HQ := Lib.hid hq
          clear hq
          go_wp2_with fail
          go_quiet ((go_at_call 82; exact Calls.quiet_of_same (HQ.out _)))
          go_wp2_with fail
          refine (may_any _ _).mono ?_
          rw [high_bad _ hh]
          rintro e w4 ⟨rfl, rfl⟩
          go_wp2_with fail
          go_ret3
          refine ⟨?_, BB.out.trans ((S1.out.drewN _).bel.mono BB.out.size)⟩
          rw [F.out]
          rfl
    · have hnx : ∀ ty, (Instr.next (.pointer (some ⟨w2.heap.size + 1, 0, none⟩)) true ty).run Tryd.prog wr = _ := fun ty => Lib.run_next_end_at wr (w2.heap.size + 1) R pos ty S.out.it hp
      have F : Hid (res = ([], 0, 8)) := Lib.hid (by rw [← RD.out, drop_end R pos hp, rd_nil])
      go_wp2_with fail
      go_ret3
      refine ⟨?_, BB.out.trans (S.out.bel.mono BB.out.size)⟩
      rw [F.out]
      rfl
theorem begs_size (d : Int) (s : ByteArray) (h : begs d s.data.toList = true) : (restA d s).size + (opL d).length = s.size := by
  have h1 := (List.isPrefixOf_iff_prefix.1 h).length_le
  rw [len_size] at h1
  rw [← len_size (restA d s), restA_l, List.length_drop, len_size]
  omega
theorem read_any (d : Int) (s : ByteArray) (w : World) (hs : s.size ≤ maxLen) :
    Calls Tryd.prog 83 #[.int .i64 d, .string s] w fun e w' => e = .returned (ans (readL d s.data.toList)) ∧ Below w.heap.size w w' := by
  unfold readL
  by_cases hd : Dia d
  · rw [hd.b, if_neg (by decide)]
    cases hb : begs d s.data.toList with
    | false => rw [if_pos rfl]; exact read_not d s w hd hb
    | true =>
      rw [if_neg (by decide)]
      have hz := begs_size d s hb
      rcases hd with rfl | rfl
      · exact read_yes0 s (restA 0 s) _ w rfl rfl (by rw [show (opL 0).length = 1 from rfl] at hz; omega) hb
      · exact read_yes1 s (restA 1 s) _ w rfl rfl (by rw [show (opL 1).length = 2 from rfl] at hz; omega) hb
  · rw [not_dia hd, if_pos rfl]
    exact read_no d s w hd
end Go.Proofs.YtjdmaindoohmkaaDoor
