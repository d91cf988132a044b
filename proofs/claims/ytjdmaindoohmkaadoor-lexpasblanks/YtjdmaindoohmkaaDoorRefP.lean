/-
  The reference's Print, walked.
-/
import Derived.Test.YtjdmaindoohmkaaDoorOwn
namespace Go.Proofs.YtjdmaindoohmkaaDoor
open Go.RowKit

def formA (d : Int) (s : ByteArray) : ByteArray := ⟨(form d s.data.toList).toArray⟩
theorem drop_suc (s : ByteArray) (k : Nat) (d : Int) (h : k < s.size) : body d (s.data.toList.drop k) = (if shield d (bt s k) (s.data.toList.drop (k + 1)) then [92, bt s k] else [bt s k]) ++ body d (s.data.toList.drop (k + 1)) := by
  rw [drop_bt s k h, body_append]
theorem ok_low (c : UInt8) (h : okB c = true) : c.toNat < 128 := by
  rcases Nat.lt_or_ge c.toNat 128 with g | g
  · exact g
  · rw [show okB c = okZ c.toNat from rfl, high_bad _ g] at h; cases h
theorem step_yes (d : Int) (s : ByteArray) (k : Nat) (acc : List UInt8) (hlt : k < s.size) (h : shield d (bt s k) (s.data.toList.drop (k + 1)) = true) (hl : acc.length ≤ 2 + 2 * k)
    (he : acc ++ body d (s.data.toList.drop k) = opL d ++ body d s.data.toList) : ∀ a, a = acc ++ [92] ++ [bt s k] → a ++ body d (s.data.toList.drop (k + 1)) = opL d ++ body d s.data.toList ∧ a.length ≤ 2 + 2 * (k + 1) := by
  rintro a rfl
  refine ⟨?_, by simp; omega⟩
  rw [← he, drop_suc s k d hlt, h]
  simp
theorem step_no (d : Int) (s : ByteArray) (k : Nat) (acc : List UInt8) (hlt : k < s.size) (h : shield d (bt s k) (s.data.toList.drop (k + 1)) = false) (hl : acc.length ≤ 2 + 2 * k)
    (he : acc ++ body d (s.data.toList.drop k) = opL d ++ body d s.data.toList) : ∀ a, a = acc ++ [bt s k] → a ++ body d (s.data.toList.drop (k + 1)) = opL d ++ body d s.data.toList ∧ a.length ≤ 2 + 2 * (k + 1) := by
  rintro a rfl
  refine ⟨?_, by simp; omega⟩
  rw [← he, drop_suc s k d hlt, h]
  simp
theorem eqb (c : UInt8) (n : Nat) (hn : n < 256) : ((c.toNat : Int) == (n : Int)) = (c == n.toUInt8) := by
  rw [Bool.eq_iff_iff]
  simp only [beq_iff_eq]
  constructor
  · intro h
    apply UInt8.toNat_inj.1
    have : n.toUInt8.toNat = n := by simp; omega
    omega
  · intro h
    rw [h]
    have : n.toUInt8.toNat = n := by simp; omega
    omega
set_option maxHeartbeats 1000000 in
theorem refPrint_0 (s : ByteArray) (w : World) (hs : s.size ≤ 1024) :
    Calls Tryd.prog 29 #[.int .i64 0, .string s] w fun e w' => e = .returned (.string (formA 0 s)) ∧ Below w.heap.size w w' := by
  have O := Lib.hid (Own.nil w)
  go_enter Tryd.func29, Tryd.ntmps29
  go_wp2_with (at_builtin; refine wp_app rfl (.tmp 10) (.tmp 11) rfl #[.int .u8 123] [123] 1 rfl rfl O.out rfl rfl (by decide) (by decide) ?_)
  intro v1 w1 o1
  have O1 := Lib.hid o1
  clear o1
  go_wp2_with fail
  go_loopw [5, 6] (fun v i wr => ∃ (k : Nat) (acc : List UInt8), i = .int .i64 k ∧ Own w v acc wr ∧ acc ++ body 0 (s.data.toList.drop k) = opL 0 ++ body 0 s.data.toList ∧ acc.length ≤ 2 + 2 * k ∧ k ≤ s.size) (fun _ i _ => s.size - (intOf i).toNat)
  case atStart => exact ⟨0, [123], rfl, O1.out, rfl, by decide, Nat.zero_le _⟩
  case round =>
    obtain ⟨k, acc, rfl, ho, hacc, hal, hk⟩ := hrel
    have O2 := Lib.hid ho
    have AC := Lib.hid hacc
    clear ho hacc O1 O
    by_cases hlt : k < s.size
    · have Q := Lib.hid (bt_eq s k hlt)
      have sh : shield 0 (bt s k) (s.data.toList.drop (k + 1)) = (((s[k].toNat : Int) == 92) || ((s[k].toNat : Int) == 125)) := by
        unfold shield
        rw [clos0, Q.out, show ((92 : Int)) = ((92 : Nat) : Int) from rfl, show ((125 : Int)) = ((125 : Nat) : Int) from rfl, eqb _ 92 (by decide), eqb _ 125 (by decide)]
        rw [show ((125 : UInt8) == bt s k) = (bt s k == 125) from Bool.beq_comm ..]
        rfl
      have SH := Lib.hid sh
      clear sh
      cases h1 : ((s[k].toNat : Int) == 92) with
      | true =>
        have N := Lib.hid (step_yes 0 s k acc hlt (by rw [SH.out, h1]; rfl) hal AC.out)
        go_wp2_with (at_builtin; refine wp_app rfl (.tmp 57) (.tmp 58) rfl #[.int .u8 92] [92] 1 rfl rfl O2.out rfl rfl (by omega) (by decide) ?_)
        intro v3 w3 o3
        have O3 := Lib.hid o3
        clear o3
        go_wp2_with (at_builtin; refine wp_app rfl (.tmp 60) (.tmp 62) rfl #[.int .u8 (s[k].toNat : Nat)] [s[k]] 1 rfl rfl O3.out rfl rfl (by simp; omega) (by decide) ?_)
        intro v4 w4 o4
        have O4 := Lib.hid o4
        clear o4
        go_wp2_with fail
        go_roundw
        case rel => exact ⟨k + 1, _, by go_num, O4.out, (N.out _ (by rw [bt_eq s k hlt]; simp)).1, (N.out _ (by rw [bt_eq s k hlt]; simp)).2, hlt⟩
        case measure => simp [intOf]; omega
      | false =>
        cases h2 : ((s[k].toNat : Int) == 125) with
        | true =>
          have N := Lib.hid (step_yes 0 s k acc hlt (by rw [SH.out, h1, h2]; rfl) hal AC.out)
          go_wp2_with (at_builtin; refine wp_app rfl (.tmp 57) (.tmp 58) rfl #[.int .u8 92] [92] 1 rfl rfl O2.out rfl rfl (by omega) (by decide) ?_)
          intro v3 w3 o3
          have O3 := Lib.hid o3
          clear o3
          go_wp2_with (at_builtin; refine wp_app rfl (.tmp 60) (.tmp 62) rfl #[.int .u8 (s[k].toNat : Nat)] [s[k]] 1 rfl rfl O3.out rfl rfl (by simp; omega) (by decide) ?_)
          intro v4 w4 o4
          have O4 := Lib.hid o4
          clear o4
          go_wp2_with fail
          go_roundw
          case rel => exact ⟨k + 1, _, by go_num, O4.out, (N.out _ (by rw [bt_eq s k hlt]; simp)).1, (N.out _ (by rw [bt_eq s k hlt]; simp)).2, hlt⟩
          case measure => simp [intOf]; omega
        | false =>
          have N := Lib.hid (step_no 0 s k acc hlt (by rw [SH.out, h1, h2]; rfl) hal AC.out)
          go_wp2_with (at_builtin; refine wp_app rfl (.tmp 60) (.tmp 62) rfl #[.int .u8 (s[k].toNat : Nat)] [s[k]] 1 rfl rfl O2.out rfl rfl (by omega) (by decide) ?_)
          intro v4 w4 o4
          have O4 := Lib.hid o4
          clear o4
          go_wp2_with fail
          go_roundw
          case rel => exact ⟨k + 1, _, by go_num, O4.out, (N.out _ (by rw [bt_eq s k hlt])).1, (N.out _ (by rw [bt_eq s k hlt])).2, hlt⟩
          case measure => simp [intOf]; omega
    · have F : Hid (acc ++ [125] = form 0 s.data.toList) := Lib.hid (by
        have h := AC.out
        rw [drop_end s k hlt, body, List.append_nil] at h
        rw [h]
        rfl)
      go_wp2_with (at_builtin; refine wp_app rfl (.tmp 66) (.tmp 67) rfl #[.int .u8 125] [125] 1 rfl rfl O2.out rfl rfl (by omega) (by decide) ?_)
      intro v2 w2 o2
      have hcv := o2.conv
      have O3 := Lib.hid o2
      clear o2
      go_wp2_with fail
      go_ret
      refine ⟨?_, O3.out.bel⟩
      unfold formA
      rw [← F.out]
      rfl
set_option maxHeartbeats 1000000 in
theorem refPrint_1 (s : ByteArray) (w : World) (hs : s.size ≤ 1024) :
    Calls Tryd.prog 29 #[.int .i64 1, .string s] w fun e w' => e = .returned (.string (formA 1 s)) ∧ Below w.heap.size w w' := by
  have O := Lib.hid (Own.nil w)
  go_enter Tryd.func29, Tryd.ntmps29
  go_wp2_with (at_builtin; refine wp_app rfl (.tmp 13) (.tmp 14) rfl #[.int .u8 47, .int .u8 42] [47, 42] 2 rfl rfl O.out rfl rfl (by decide) (by decide) ?_)
  intro v1 w1 o1
  have O1 := Lib.hid o1
  clear o1
  go_wp2_with fail
  go_loopw [5, 6] (fun v i wr => ∃ (k : Nat) (acc : List UInt8), i = .int .i64 k ∧ Own w v acc wr ∧ acc ++ body 1 (s.data.toList.drop k) = opL 1 ++ body 1 s.data.toList ∧ acc.length ≤ 2 + 2 * k ∧ k ≤ s.size) (fun _ i _ => s.size - (intOf i).toNat)
  case atStart => exact ⟨0, [47, 42], rfl, O1.out, rfl, by decide, Nat.zero_le _⟩
  case round =>
    obtain ⟨k, acc, rfl, ho, hacc, hal, hk⟩ := hrel
    have O2 := Lib.hid ho
    have AC := Lib.hid hacc
    clear ho hacc O1 O
    by_cases hlt : k < s.size
    · have Q := Lib.hid (bt_eq s k hlt)
      have sh : shield 1 (bt s k) (s.data.toList.drop (k + 1)) = (((s[k].toNat : Int) == 92) || (((s[k].toNat : Int) == 42) && Lib.hasPrefix (s.data.toList.drop (k + 1)) [47])) := by
        unfold shield
        rw [clos1, Q.out, show ((92 : Int)) = ((92 : Nat) : Int) from rfl, show ((42 : Int)) = ((42 : Nat) : Int) from rfl, eqb _ 92 (by decide), eqb _ 42 (by decide)]
        rw [show ((42 : UInt8) == bt s k) = (bt s k == 42) from Bool.beq_comm ..]
        rfl
      have SH := Lib.hid sh
      clear sh
      cases h1 : ((s[k].toNat : Int) == 92) with
      | true =>
        have N := Lib.hid (step_yes 1 s k acc hlt (by rw [SH.out, h1]; rfl) hal AC.out)
        go_wp2_with (at_builtin; refine wp_app rfl (.tmp 57) (.tmp 58) rfl #[.int .u8 92] [92] 1 rfl rfl O2.out rfl rfl (by omega) (by decide) ?_)
        intro v3 w3 o3
        have O3 := Lib.hid o3
        clear o3
        go_wp2_with (at_builtin; refine wp_app rfl (.tmp 60) (.tmp 62) rfl #[.int .u8 (s[k].toNat : Nat)] [s[k]] 1 rfl rfl O3.out rfl rfl (by simp; omega) (by decide) ?_)
        intro v4 w4 o4
        have O4 := Lib.hid o4
        clear o4
        go_wp2_with fail
        go_roundw
        case rel => exact ⟨k + 1, _, by go_num, O4.out, (N.out _ (by rw [bt_eq s k hlt]; simp)).1, (N.out _ (by rw [bt_eq s k hlt]; simp)).2, hlt⟩
        case measure => simp [intOf]; omega
      | false =>
        cases h2 : ((s[k].toNat : Int) == 42) with
        | true =>
          by_cases h3 : k + 1 < s.size
          · have hp : Lib.hasPrefix (s.data.toList.drop (k + 1)) [47] = (((s[k + 1].toNat : Int) == 47)) := by
              rw [drop_bt s (k + 1) h3, hp_cons, hp_nil, Bool.and_true, bt_eq s (k + 1) h3, show ((47 : Int)) = ((47 : Nat) : Int) from rfl, eqb _ 47 (by decide)]
              exact Bool.beq_comm ..
            have HP := Lib.hid hp
            clear hp
            cases h4 : ((s[k + 1].toNat : Int) == 47) with
            | true =>
              have N := Lib.hid (step_yes 1 s k acc hlt (by rw [SH.out, h1, h2, HP.out, h4]; rfl) hal AC.out)
              go_wp2_with (at_builtin; refine wp_app rfl (.tmp 57) (.tmp 58) rfl #[.int .u8 92] [92] 1 rfl rfl O2.out rfl rfl (by omega) (by decide) ?_)
              intro v3 w3 o3
              have O3 := Lib.hid o3
              clear o3
              go_wp2_with (at_builtin; refine wp_app rfl (.tmp 60) (.tmp 62) rfl #[.int .u8 (s[k].toNat : Nat)] [s[k]] 1 rfl rfl O3.out rfl rfl (by simp; omega) (by decide) ?_)
              intro v4 w4 o4
              have O4 := Lib.hid o4
              clear o4
              go_wp2_with fail
              go_roundw
              case rel => exact ⟨k + 1, _, by go_num, O4.out, (N.out _ (by rw [bt_eq s k hlt]; simp)).1, (N.out _ (by rw [bt_eq s k hlt]; simp)).2, hlt⟩
              case measure => simp [intOf]; omega
            | false =>
              have N := Lib.hid (step_no 1 s k acc hlt (by rw [SH.out, h1, h2, HP.out, h4]; rfl) hal AC.out)
              go_wp2_with (at_builtin; refine wp_app rfl (.tmp 60) (.tmp 62) rfl #[.int .u8 (s[k].toNat : Nat)] [s[k]] 1 rfl rfl O2.out rfl rfl (by omega) (by decide) ?_)
              intro v4 w4 o4
              have O4 := Lib.hid o4
              clear o4
              go_wp2_with fail
              go_roundw
              case rel => exact ⟨k + 1, _, by go_num, O4.out, (N.out _ (by rw [bt_eq s k hlt])).1, (N.out _ (by rw [bt_eq s k hlt])).2, hlt⟩
              case measure => simp [intOf]; omega
          · have N := Lib.hid (step_no 1 s k acc hlt (by rw [SH.out, h1, h2, drop_end s (k + 1) h3]; rfl) hal AC.out)
            go_wp2_with (at_builtin; refine wp_app rfl (.tmp 60) (.tmp 62) rfl #[.int .u8 (s[k].toNat : Nat)] [s[k]] 1 rfl rfl O2.out rfl rfl (by omega) (by decide) ?_)
            intro v4 w4 o4
            have O4 := Lib.hid o4
            clear o4
            go_wp2_with fail
            go_roundw
            case rel => exact ⟨k + 1, _, by go_num, O4.out, (N.out _ (by rw [bt_eq s k hlt])).1, (N.out _ (by rw [bt_eq s k hlt])).2, hlt⟩
            case measure => simp [intOf]; omega
        | false =>
          have N := Lib.hid (step_no 1 s k acc hlt (by rw [SH.out, h1, h2]; rfl) hal AC.out)
          go_wp2_with (at_builtin; refine wp_app rfl (.tmp 60) (.tmp 62) rfl #[.int .u8 (s[k].toNat : Nat)] [s[k]] 1 rfl rfl O2.out rfl rfl (by omega) (by decide) ?_)
          intro v4 w4 o4
          have O4 := Lib.hid o4
          clear o4
          go_wp2_with fail
          go_roundw
          case rel => exact ⟨k + 1, _, by go_num, O4.out, (N.out _ (by rw [bt_eq s k hlt])).1, (N.out _ (by rw [bt_eq s k hlt])).2, hlt⟩
          case measure => simp [intOf]; omega
    · have F : Hid (acc ++ [42, 47] = form 1 s.data.toList) := Lib.hid (by
        have h := AC.out
        rw [drop_end s k hlt, body, List.append_nil] at h
        rw [h]
        rfl)
      go_wp2_with (at_builtin; refine wp_app rfl (.tmp 70) (.tmp 71) rfl #[.int .u8 42, .int .u8 47] [42, 47] 2 rfl rfl O2.out rfl rfl (by omega) (by decide) ?_)
      intro v2 w2 o2
      have hcv := o2.conv
      have O3 := Lib.hid o2
      clear o2
      go_wp2_with fail
      go_ret
      refine ⟨?_, O3.out.bel⟩
      unfold formA
      rw [← F.out]
      rfl
theorem refPrint_any (d : Int) (hd : Dia d) (s : ByteArray) (w : World) (hs : s.size ≤ 1024) :
    Calls Tryd.prog 29 #[.int .i64 d, .string s] w fun e w' => e = .returned (.string (formA d s)) ∧ Below w.heap.size w w' := by
  rcases hd with rfl | rfl
  · exact refPrint_0 s w hs
  · exact refPrint_1 s w hs
end Go.Proofs.YtjdmaindoohmkaaDoor
