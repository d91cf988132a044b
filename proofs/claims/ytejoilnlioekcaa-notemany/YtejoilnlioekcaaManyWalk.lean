/-
  NoteMany, walked.
-/
import Derived.Test.YtejoilnlioekcaaPrnTwo
namespace Go.Proofs.Ytejoilnlioekcaa
open Go.RowKit

theorem add_l2 (a b : ByteArray) : (a ++ b).data.toList = a.data.toList ++ b.data.toList := by simp
set_option maxHeartbeats 800000 in
theorem noteMany_walk (d : Int) (a : Option Addr) (len cap : Nat) (ss : List ByteArray) (w : World) (hS : IsStrs w a len cap ss) :
    Calls Try.prog 7 #[.int .i64 d, .slice a len cap] w fun e w' => e = .returned (.bool true) ∧ Below w.heap.size w w' := by
  by_cases hlen : len ≤ 20
  · obtain ⟨T, E, hm⟩ : ∃ (T : ByteArray) (E : Nat), many d [] (ss.map (·.data.toList)) = (T.data.toList, E) := ⟨⟨(many d [] (ss.map (·.data.toList))).1.toArray⟩, (many d [] (ss.map (·.data.toList))).2, rfl⟩
    have HM := Lib.hid hm
    have HS := Lib.hid hS
    obtain ⟨hl, hcap, _, _, hor⟩ := hS
    have HL := Lib.hid hl
    have HO := Lib.hid hor
    clear hl hm hor
    go_enter Try.func7, Try.ntmps7
    go_wp2_with fail
    refine (print2_any d a len cap ss T E _ HS.out hlen HM.out).mono ?_
    rintro e w0 ⟨rfl, b0⟩
    have B0 := Lib.hid b0
    clear b0
    go_wp2_with fail
    go_loopw [7, 8] (fun v i wr => ∃ (k : Nat) (W : ByteArray), v = .string W ∧ i = .int .i64 k ∧ k ≤ len ∧ Below w.heap.size w wr ∧ many d W.data.toList ((ss.map (·.data.toList)).drop k) = (T.data.toList, E) ∧ W.size ≤ 3000 * k) (fun _ i _ => len - (intOf i).toNat)
    case atStart => exact ⟨0, ⟨#[]⟩, rfl, rfl, Nat.zero_le _, B0.out, HM.out, by decide⟩
    case round =>
      obtain ⟨k, W, rfl, rfl, hk, hb, hmk, hal⟩ := hrel
      have B := Lib.hid hb
      have M := Lib.hid hmk
      clear hb hmk
      by_cases hlt : k < len
      · have ho := HO.out
        rcases ho with h0 | ⟨b, o, rfl, hbl, hcell⟩
        · omega
        · obtain ⟨x, hx⟩ : ∃ x, ss[k]? = some x := ⟨ss[k]'(by rw [HL.out]; exact hlt), List.getElem?_eq_getElem _⟩
          have hc : wr.cell? ⟨b, o + k, none⟩ = some (.string x) := by
            rw [B.out.cell (p := ⟨b, o + k, none⟩) hbl]; exact hcell k x hx
          have DS := Lib.hid (drop_ss hx)
          clear hcell hx hbl HO
          by_cases he : errL d x.data.toList = 0
          · have EE := Lib.hid he
            have hf := form_small he
            have N : Hid (many d (W ++ formA d x ++ ⟨#[10]⟩).data.toList ((ss.map (·.data.toList)).drop (k + 1)) = (T.data.toList, E)) := Lib.hid (by
              rw [← M.out, DS.out, many_cons, if_pos he, add_l2, add_l2, formA_l])
            clear he
            go_wp2_with fail
            refine (print_fine d x _ EE.out).mono ?_
            generalize formA d x = u at hf N ⊢
            have hs1 : W.size + u.size ≤ 1000000 := by omega
            have hs2 : (W ++ u).size + (ByteArray.mk #[10]).size ≤ 1000001 := by rw [ByteArray.size_append, show (ByteArray.mk #[10]).size = 1 from rfl]; omega
            rintro e w1 ⟨rfl, b1⟩
            have B1 := Lib.hid (B.out.trans (b1.mono B.out.size))
            clear b1
            go_wp2_with fail
            go_roundw
            case rel => exact ⟨k + 1, _, rfl, by go_num, by omega, B1.out, N.out, by rw [ByteArray.size_append, ByteArray.size_append, show (ByteArray.mk #[10]).size = 1 from rfl]; omega⟩
            case measure => simp [intOf]; omega
          · have EE := Lib.hid he
            have hne : ((errL d x.data.toList : Nat) : Int) ≠ 0 := by omega
            have N : Hid (([], errL d x.data.toList) = (T.data.toList, E)) := Lib.hid (by rw [← M.out, DS.out, many_cons, if_neg he])
            clear he
            have n1 : T = ⟨#[]⟩ := ba_ext (Prod.mk.inj N.out).1.symm
            have n2 : errL d x.data.toList = E := (Prod.mk.inj N.out).2
            subst n1
            have N2 := Lib.hid n2
            clear n2 N
            go_wp2_with fail
            refine (print_err d x _ EE.out).mono ?_
            rw [N2.out]
            rw [N2.out] at hne
            have hq : (((E : Nat) : Int) != 0) = true := by simpa using hne
            rintro e w1 ⟨rfl, b1⟩
            have B1 := Lib.hid (B.out.trans (b1.mono B.out.size))
            clear b1
            go_wp2_with fail
            refine (awake_any _).mono ?_
            rintro e w2 ⟨rfl, b2⟩
            have B2 := Lib.hid (B1.out.trans (b2.mono B1.out.size))
            clear b2
            go_wp2_with fail
            go_ret
            exact ⟨rfl, B2.out⟩
      · have N : Hid ((W.data.toList, 0) = (T.data.toList, E)) := Lib.hid (by
          rw [← M.out, List.drop_eq_nil_of_le (by rw [List.length_map, HL.out]; omega), many_nil])
        have n1 : W = T := ba_ext (Prod.mk.inj N.out).1
        have n2 : 0 = E := (Prod.mk.inj N.out).2
        subst n1 n2
        go_wp2_with fail
        refine (awake_any _).mono ?_
        rintro e w2 ⟨rfl, b2⟩
        have B2 := Lib.hid (B.out.trans (b2.mono B.out.size))
        clear b2
        go_wp2_with fail
        go_ret
        exact ⟨rfl, B2.out⟩
  · clear hS
    go_enter Try.func7, Try.ntmps7
    go_wp2_with fail
    refine (awake_any _).mono ?_
    rintro e w2 ⟨rfl, b2⟩
    have B2 := Lib.hid b2
    clear b2
    go_wp2_with fail
    go_ret
    exact ⟨rfl, B2.out⟩
end Go.Proofs.Ytejoilnlioekcaa
