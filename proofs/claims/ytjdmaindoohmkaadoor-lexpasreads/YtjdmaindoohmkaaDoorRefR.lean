/-
  The reference's Read, walked.
-/
import Derived.Test.YtjdmaindoohmkaaDoorRefB
namespace Go.Proofs.YtjdmaindoohmkaaDoor
open Go.RowKit

theorem Own.shape {w0 wr : World} {v : Value} {acc : List UInt8} (h : Own w0 v acc wr) : ∃ a c, v = .slice a acc.length c := by
  rcases h.val with ⟨rfl, rfl⟩ | ⟨g, cap, rfl⟩
  · exact ⟨none, 0, rfl⟩
  · exact ⟨some ⟨g, 0, none⟩, cap, rfl⟩
set_option maxHeartbeats 400000 in
theorem refRead_no (d : Int) (s : ByteArray) (w : World) (hd : ¬ Dia d) :
    Calls Tryd.prog 42 #[.int .i64 d, .string s] w fun e w' => e = .returned (ans ([], 0, 1)) ∧ Below w.heap.size w w' := by
  have h0 : (d != 0) = true := by unfold Dia at hd; simp; omega
  have h1 : (d != 1) = true := by unfold Dia at hd; simp; omega
  clear hd
  go_enter Tryd.func42, Tryd.ntmps42
  go_wp2_with fail
  go_ret3
  exact ⟨rfl, Below.refl _ _⟩
set_option maxRecDepth 100000 in
set_option maxHeartbeats 4000000 in
theorem refRead_yes0 (s : ByteArray) (res : List UInt8 × Nat × Nat) (w : World) (hres : rd 0 (s.data.toList.drop 1) false [] 1 = res) (hs : s.size ≤ maxLen) (hn : 1 ≤ s.size) (hb : begL 0 s.data.toList = true) :
    Calls Tryd.prog 42 #[.int .i64 0, .string s] w fun e w' => e = .returned (ans res) ∧ Below w.heap.size w w' := by
  unfold maxLen at hs
  have HB := Lib.hid hb
  have RS := Lib.hid hres
  have O := Lib.hid (Own.nil w)
  clear hb hres
  go_enter Tryd.func42, Tryd.ntmps42
  go_wp2_with fail
  refine (refBeg_0 s _).mono ?_
  rw [HB.out]
  rintro e w1 ⟨rfl, rfl⟩
  go_wp2_with fail
  go_loopw [7, 8] (fun v i wr => ∃ (k : Nat) (acc : List UInt8), i = .int .i64 k ∧ Own w v acc wr ∧ rd 0 (s.data.toList.drop k) false acc k = res ∧ acc.length ≤ 1024 ∧ k ≤ s.size) (fun _ i _ => s.size - (intOf i).toNat)
  case atStart => exact ⟨1, [], rfl, O.out, RS.out, by decide, hn⟩
  case round =>
    obtain ⟨k, acc, rfl, ho, hrd, hal, hk⟩ := hrel
    obtain ⟨va, vc, rfl⟩ := ho.shape
    have hcv := ho.conv
    have O2 := Lib.hid ho
    have RD := Lib.hid hrd
    clear ho hrd RS O
    by_cases hlt : k < s.size
    · have Q := Lib.hid (bt_eq s k hlt)
      have X : Hid (res = if clos 0 (s.data.toList.drop k) = true then (acc, k + 1, 0)
          else if (bt s k == 92) = true then rd 0 (s.data.toList.drop (k + 1)) true acc (k + 1)
          else if okB (bt s k) = false then ([], 0, 8)
          else if acc.length = 1024 then ([], 0, 3)
          else rd 0 (s.data.toList.drop (k + 1)) false (acc ++ [bt s k]) (k + 1)) := Lib.hid (by
        rw [← RD.out, drop_bt s k hlt, rd_f]; rfl)
      have hcl : clos 0 (s.data.toList.drop k) = ((s[k].toNat : Int) == 125) := by
        rw [show clos 0 (s.data.toList.drop k) = _ from hp_at s k hlt 125 (by decide) [], hp_nil, Bool.and_true]; rfl
      have HC := Lib.hid hcl
      clear hcl
      cases h1 : ((s[k].toNat : Int) == 125) with
      | true =>
        have F : Hid (res = (acc, k + 1, 0)) := Lib.hid (by rw [X.out, HC.out, h1, if_pos rfl])
        go_wp2_with fail
        go_ret3
        refine ⟨Eq.trans (ans_ok acc _ (k + 1) (by omega)) (by rw [F.out]), O2.out.bel⟩
      | false =>
        have CL : Hid (clos 0 (s.data.toList.drop k) = false) := Lib.hid (by rw [HC.out, h1])
        clear HC
        cases h92 : ((s[k].toNat : Int) == 92) with
        | true =>
          have H92 : Hid ((bt s k == 92) = true) := Lib.hid (by rw [← Q.out, ← h92]; exact (eqb _ 92 (by decide)).symm)
          by_cases hk1 : k + 1 < s.size
          · have QI := Lib.hid (bt_eq s (k + 1) hk1)
            have hie : (((k : Int) + 1) == (s.size : Int)) = false := by simp; omega
            have Z : Hid (res = if (bt s (k + 1) == 92 || bt s (k + 1) == 125) = true then (if acc.length = 1024 then ([], 0, 3) else rd 0 (s.data.toList.drop (k + 2)) false (acc ++ [bt s (k + 1)]) (k + 2)) else ([], 0, 8)) := Lib.hid (by
              rw [X.out, CL.out, if_neg (by decide), H92.out, if_pos rfl, drop_bt s (k + 1) hk1, rd_t]; rfl)
            have ea : ((s[k + 1].toNat : Int) != 92) = !(bt s (k + 1) == 92) := by unfold bne; rw [show ((s[k + 1].toNat : Int) == 92) = _ from eqb _ 92 (by decide), QI.out]; rfl
            have eb : ((s[k + 1].toNat : Int) == 125) = (bt s (k + 1) == 125) := by rw [show ((s[k + 1].toNat : Int) == 125) = _ from eqb _ 125 (by decide), QI.out]; rfl
            cases g1 : (bt s (k + 1) == 92) with
            | true =>
              have Y : Hid (res = if okB (bt s (k + 1)) = false then ([], 0, 8) else if acc.length = 1024 then ([], 0, 3) else rd 0 (s.data.toList.drop (k + 2)) false (acc ++ [bt s (k + 1)]) (k + 2)) := Lib.hid (by
                rw [Z.out, g1, if_pos (by rfl), show okB (bt s (k + 1)) = true by rw [eq_of_beq g1]; decide, if_neg (show ¬ (true = false) by decide)])
              rw [g1] at ea
              clear g1 eb
              cases hok : okB (bt s (k + 1)) with
              | false =>
                have F : Hid (res = ([], 0, 8)) := Lib.hid (by rw [Y.out, hok]; rfl)
                have OK := Lib.hid hok
                clear hok
                go_wp2_with fail
                refine (right_any _ _).mono ?_
                rw [QI.out, show okZ ((bt s (k + 1)).toNat : Int) = false from OK.out]
                rintro e w4 ⟨rfl, rfl⟩
                go_wp2_with fail
                go_ret3
                refine ⟨?_, O2.out.bel⟩
                rw [F.out]
                rfl
              | true =>
                have OK := Lib.hid hok
                clear hok
                by_cases hfull : acc.length = 1024
                · have F : Hid (res = ([], 0, 3)) := Lib.hid (by rw [Y.out, OK.out, if_neg (by decide), if_pos hfull])
                  have hf : ((acc.length : Int) == 1024) = true := by simp; omega
                  clear hfull
                  go_wp2_with fail
                  refine (right_any _ _).mono ?_
                  rw [QI.out, show okZ ((bt s (k + 1)).toNat : Int) = true from OK.out]
                  rintro e w4 ⟨rfl, rfl⟩
                  go_wp2_with fail
                  go_ret3
                  refine ⟨?_, O2.out.bel⟩
                  rw [F.out]
                  rfl
                · have F : Hid (rd 0 (s.data.toList.drop (k + 2)) false (acc ++ [bt s (k + 1)]) (k + 2) = res) := Lib.hid (by rw [Y.out, OK.out, if_neg (by decide), if_neg hfull])
                  have hf : ((acc.length : Int) == 1024) = false := by simp; omega
                  have hal2 : acc.length + 1 ≤ 1024 := by omega
                  clear hfull
                  go_wp2_with fail
                  refine (right_any _ _).mono ?_
                  rw [QI.out, show okZ ((bt s (k + 1)).toNat : Int) = true from OK.out]
                  rintro e w4 ⟨rfl, rfl⟩
                  go_wp2_with (at_builtin; refine wp_app rfl (.tmp 100) (.tmp 102) rfl #[.int .u8 ((bt s (k + 1)).toNat : Nat)] [bt s (k + 1)] 1 rfl rfl O2.out rfl rfl (by omega) (by decide) ?_)
                  intro v5 w5 o5
                  have O5 := Lib.hid o5
                  clear o5
                  go_wp2_with fail
                  go_roundw
                  case rel => exact ⟨k + 2, _, by go_num, O5.out, F.out, by simp; omega, by omega⟩
                  case measure => simp [intOf]; omega
            | false =>
              rw [g1] at ea
              cases g2 : (bt s (k + 1) == 125) with
              | true =>
                have Y : Hid (res = if okB (bt s (k + 1)) = false then ([], 0, 8) else if acc.length = 1024 then ([], 0, 3) else rd 0 (s.data.toList.drop (k + 2)) false (acc ++ [bt s (k + 1)]) (k + 2)) := Lib.hid (by
                  rw [Z.out, g1, g2, if_pos (by rfl), show okB (bt s (k + 1)) = true by rw [eq_of_beq g2]; decide, if_neg (show ¬ (true = false) by decide)])
                rw [g2] at eb
                clear g1 g2
                cases hok : okB (bt s (k + 1)) with
                | false =>
                  have F : Hid (res = ([], 0, 8)) := Lib.hid (by rw [Y.out, hok]; rfl)
                  have OK := Lib.hid hok
                  clear hok
                  go_wp2_with fail
                  refine (right_any _ _).mono ?_
                  rw [QI.out, show okZ ((bt s (k + 1)).toNat : Int) = false from OK.out]
                  rintro e w4 ⟨rfl, rfl⟩
                  go_wp2_with fail
                  go_ret3
                  refine ⟨?_, O2.out.bel⟩
                  rw [F.out]
                  rfl
                | true =>
                  have OK := Lib.hid hok
                  clear hok
                  by_cases hfull : acc.length = 1024
                  · have F : Hid (res = ([], 0, 3)) := Lib.hid (by rw [Y.out, OK.out, if_neg (by decide), if_pos hfull])
                    have hf : ((acc.length : Int) == 1024) = true := by simp; omega
                    clear hfull
                    go_wp2_with fail
                    refine (right_any _ _).mono ?_
                    rw [QI.out, show okZ ((bt s (k + 1)).toNat : Int) = true from OK.out]
                    rintro e w4 ⟨rfl, rfl⟩
                    go_wp2_with fail
                    go_ret3
                    refine ⟨?_, O2.out.bel⟩
                    rw [F.out]
                    rfl
                  · have F : Hid (rd 0 (s.data.toList.drop (k + 2)) false (acc ++ [bt s (k + 1)]) (k + 2) = res) := Lib.hid (by rw [Y.out, OK.out, if_neg (by decide), if_neg hfull])
                    have hf : ((acc.length : Int) == 1024) = false := by simp; omega
                    have hal2 : acc.length + 1 ≤ 1024 := by omega
                    clear hfull
                    go_wp2_with fail
                    refine (right_any _ _).mono ?_
                    rw [QI.out, show okZ ((bt s (k + 1)).toNat : Int) = true from OK.out]
                    rintro e w4 ⟨rfl, rfl⟩
                    go_wp2_with (at_builtin; refine wp_app rfl (.tmp 100) (.tmp 102) rfl #[.int .u8 ((bt s (k + 1)).toNat : Nat)] [bt s (k + 1)] 1 rfl rfl O2.out rfl rfl (by omega) (by decide) ?_)
                    intro v5 w5 o5
                    have O5 := Lib.hid o5
                    clear o5
                    go_wp2_with fail
                    go_roundw
                    case rel => exact ⟨k + 2, _, by go_num, O5.out, F.out, by simp; omega, by omega⟩
                    case measure => simp [intOf]; omega
              | false =>
                have F : Hid (res = ([], 0, 8)) := Lib.hid (by rw [Z.out, g1, g2, if_neg (by decide)])
                rw [g2] at eb
                clear g1 g2
                go_wp2_with fail
                go_ret3
                refine ⟨?_, O2.out.bel⟩
                rw [F.out]
                rfl
          · have F : Hid (res = ([], 0, 8)) := Lib.hid (by
              rw [X.out, CL.out, if_neg (by decide), H92.out, if_pos rfl, drop_end s (k + 1) hk1, rd_nil])
            have hie : (((k : Int) + 1) == (s.size : Int)) = true := by simp; omega
            go_wp2_with fail
            go_ret3
            refine ⟨?_, O2.out.bel⟩
            rw [F.out]
            rfl
        | false =>
          have H92 : Hid ((bt s k == 92) = false) := Lib.hid (by rw [← Q.out, ← h92]; exact (eqb _ 92 (by decide)).symm)
          have QI := Lib.hid Q.out
          have Y : Hid (res = if okB (bt s k) = false then ([], 0, 8) else if acc.length = 1024 then ([], 0, 3) else rd 0 (s.data.toList.drop (k + 1)) false (acc ++ [bt s k]) (k + 1)) := Lib.hid (by
            rw [X.out, CL.out, if_neg (show ¬ (false = true) by decide), H92.out, if_neg (show ¬ (false = true) by decide)])
          cases hok : okB (bt s (k)) with
          | false =>
            have F : Hid (res = ([], 0, 8)) := Lib.hid (by rw [Y.out, hok]; rfl)
            have OK := Lib.hid hok
            clear hok
            go_wp2_with fail
            refine (right_any _ _).mono ?_
            rw [QI.out, show okZ ((bt s (k)).toNat : Int) = false from OK.out]
            rintro e w4 ⟨rfl, rfl⟩
            go_wp2_with fail
            go_ret3
            refine ⟨?_, O2.out.bel⟩
            rw [F.out]
            rfl
          | true =>
            have OK := Lib.hid hok
            clear hok
            by_cases hfull : acc.length = 1024
            · have F : Hid (res = ([], 0, 3)) := Lib.hid (by rw [Y.out, OK.out, if_neg (by decide), if_pos hfull])
              have hf : ((acc.length : Int) == 1024) = true := by simp; omega
              clear hfull
              go_wp2_with fail
              refine (right_any _ _).mono ?_
              rw [QI.out, show okZ ((bt s (k)).toNat : Int) = true from OK.out]
              rintro e w4 ⟨rfl, rfl⟩
              go_wp2_with fail
              go_ret3
              refine ⟨?_, O2.out.bel⟩
              rw [F.out]
              rfl
            · have F : Hid (rd 0 (s.data.toList.drop (k + 1)) false (acc ++ [bt s (k)]) (k + 1) = res) := Lib.hid (by rw [Y.out, OK.out, if_neg (by decide), if_neg hfull])
              have hf : ((acc.length : Int) == 1024) = false := by simp; omega
              have hal2 : acc.length + 1 ≤ 1024 := by omega
              clear hfull
              go_wp2_with fail
              refine (right_any _ _).mono ?_
              rw [QI.out, show okZ ((bt s (k)).toNat : Int) = true from OK.out]
              rintro e w4 ⟨rfl, rfl⟩
              go_wp2_with (at_builtin; refine wp_app rfl (.tmp 100) (.tmp 102) rfl #[.int .u8 ((bt s (k)).toNat : Nat)] [bt s (k)] 1 rfl rfl O2.out rfl rfl (by omega) (by decide) ?_)
              intro v5 w5 o5
              have O5 := Lib.hid o5
              clear o5
              go_wp2_with fail
              go_roundw
              case rel => exact ⟨k + 1, _, by go_num, O5.out, F.out, by simp; omega, by omega⟩
              case measure => simp [intOf]; omega
    · have F : Hid (res = ([], 0, 8)) := Lib.hid (by rw [← RD.out, drop_end s k hlt, rd_nil])
      go_wp2_with fail
      go_ret3
      refine ⟨?_, O2.out.bel⟩
      rw [F.out]
      rfl
set_option maxRecDepth 100000 in
set_option maxHeartbeats 4000000 in
theorem refRead_yes1 (s : ByteArray) (res : List UInt8 × Nat × Nat) (w : World) (hres : rd 1 (s.data.toList.drop 2) false [] 2 = res) (hs : s.size ≤ maxLen) (hn : 2 ≤ s.size) (hb : begL 1 s.data.toList = true) :
    Calls Tryd.prog 42 #[.int .i64 1, .string s] w fun e w' => e = .returned (ans res) ∧ Below w.heap.size w w' := by
  unfold maxLen at hs
  have HB := Lib.hid hb
  have RS := Lib.hid hres
  have O := Lib.hid (Own.nil w)
  clear hb hres
  go_enter Tryd.func42, Tryd.ntmps42
  go_wp2_with fail
  refine (refBeg_1 s _).mono ?_
  rw [HB.out]
  rintro e w1 ⟨rfl, rfl⟩
  go_wp2_with fail
  go_loopw [7, 8] (fun v i wr => ∃ (k : Nat) (acc : List UInt8), i = .int .i64 k ∧ Own w v acc wr ∧ rd 1 (s.data.toList.drop k) false acc k = res ∧ acc.length ≤ 1024 ∧ k ≤ s.size) (fun _ i _ => s.size - (intOf i).toNat)
  case atStart => exact ⟨2, [], rfl, O.out, RS.out, by decide, hn⟩
  case round =>
    obtain ⟨k, acc, rfl, ho, hrd, hal, hk⟩ := hrel
    obtain ⟨va, vc, rfl⟩ := ho.shape
    have hcv := ho.conv
    have O2 := Lib.hid ho
    have RD := Lib.hid hrd
    clear ho hrd RS O
    by_cases hlt : k < s.size
    · have Q := Lib.hid (bt_eq s k hlt)
      have X : Hid (res = if clos 1 (s.data.toList.drop k) = true then (acc, k + 2, 0)
          else if (bt s k == 92) = true then rd 1 (s.data.toList.drop (k + 1)) true acc (k + 1)
          else if okB (bt s k) = false then ([], 0, 8)
          else if acc.length = 1024 then ([], 0, 3)
          else rd 1 (s.data.toList.drop (k + 1)) false (acc ++ [bt s k]) (k + 1)) := Lib.hid (by
        rw [← RD.out, drop_bt s k hlt, rd_f]; rfl)
      cases h1 : ((s[k].toNat : Int) == 42) with
      | true =>
        by_cases h2 : k + 1 < s.size
        · cases h3 : ((s[k + 1].toNat : Int) == 47) with
          | true =>
            have CL : Hid (clos 1 (s.data.toList.drop k) = true) := Lib.hid (by
              rw [show clos 1 (s.data.toList.drop k) = _ from hp_at s k hlt 42 (by decide) [47], show Lib.hasPrefix (s.data.toList.drop (k + 1)) [47] = _ from hp_at s (k + 1) h2 47 (by decide) [], hp_nil, Bool.and_true]
              rw [show (((42 : Nat)) : Int) = 42 from rfl, show (((47 : Nat)) : Int) = 47 from rfl, h1, h3]; rfl)
            have F : Hid (res = (acc, k + 2, 0)) := Lib.hid (by rw [X.out, CL.out, if_pos rfl])
            go_wp2_with fail
            go_ret3
            refine ⟨Eq.trans (ans_ok acc _ (k + 2) (by omega)) (by rw [F.out]), O2.out.bel⟩
          | false =>
            have CL : Hid (clos 1 (s.data.toList.drop k) = false) := Lib.hid (by
              rw [show clos 1 (s.data.toList.drop k) = _ from hp_at s k hlt 42 (by decide) [47], show Lib.hasPrefix (s.data.toList.drop (k + 1)) [47] = _ from hp_at s (k + 1) h2 47 (by decide) [], hp_nil, Bool.and_true]
              rw [show (((42 : Nat)) : Int) = 42 from rfl, show (((47 : Nat)) : Int) = 47 from rfl, h1, h3]; rfl)
            have h92 : ((s[k].toNat : Int) == 92) = false := by
              have := h1
              simp at this ⊢
              omega
            have H92 : Hid ((bt s k == 92) = false) := Lib.hid (by rw [← Q.out, ← h92]; exact (eqb _ 92 (by decide)).symm)
            have QI := Lib.hid Q.out
            have Y : Hid (res = if okB (bt s k) = false then ([], 0, 8) else if acc.length = 1024 then ([], 0, 3) else rd 1 (s.data.toList.drop (k + 1)) false (acc ++ [bt s k]) (k + 1)) := Lib.hid (by
              rw [X.out, CL.out, if_neg (show ¬ (false = true) by decide), H92.out, if_neg (show ¬ (false = true) by decide)])
            cases hok : okB (bt s (k)) with
            | false =>
              have F : Hid (res = ([], 0, 8)) := Lib.hid (by rw [Y.out, hok]; rfl)
              have OK := Lib.hid hok
              clear hok
              go_wp2_with fail
              refine (right_any _ _).mono ?_
              rw [QI.out, show okZ ((bt s (k)).toNat : Int) = false from OK.out]
              rintro e w4 ⟨rfl, rfl⟩
              go_wp2_with fail
              go_ret3
              refine ⟨?_, O2.out.bel⟩
              rw [F.out]
              rfl
            | true =>
              have OK := Lib.hid hok
              clear hok
              by_cases hfull : acc.length = 1024
              · have F : Hid (res = ([], 0, 3)) := Lib.hid (by rw [Y.out, OK.out, if_neg (by decide), if_pos hfull])
                have hf : ((acc.length : Int) == 1024) = true := by simp; omega
                clear hfull
                go_wp2_with fail
                refine (right_any _ _).mono ?_
                rw [QI.out, show okZ ((bt s (k)).toNat : Int) = true from OK.out]
                rintro e w4 ⟨rfl, rfl⟩
                go_wp2_with fail
                go_ret3
                refine ⟨?_, O2.out.bel⟩
                rw [F.out]
                rfl
              · have F : Hid (rd 1 (s.data.toList.drop (k + 1)) false (acc ++ [bt s (k)]) (k + 1) = res) := Lib.hid (by rw [Y.out, OK.out, if_neg (by decide), if_neg hfull])
                have hf : ((acc.length : Int) == 1024) = false := by simp; omega
                have hal2 : acc.length + 1 ≤ 1024 := by omega
                clear hfull
                go_wp2_with fail
                refine (right_any _ _).mono ?_
                rw [QI.out, show okZ ((bt s (k)).toNat : Int) = true from OK.out]
                rintro e w4 ⟨rfl, rfl⟩
                go_wp2_with (at_builtin; refine wp_app rfl (.tmp 100) (.tmp 102) rfl #[.int .u8 ((bt s (k)).toNat : Nat)] [bt s (k)] 1 rfl rfl O2.out rfl rfl (by omega) (by decide) ?_)
                intro v5 w5 o5
                have O5 := Lib.hid o5
                clear o5
                go_wp2_with fail
                go_roundw
                case rel => exact ⟨k + 1, _, by go_num, O5.out, F.out, by simp; omega, by omega⟩
                case measure => simp [intOf]; omega
        · have CL : Hid (clos 1 (s.data.toList.drop k) = false) := Lib.hid (by
            rw [show clos 1 (s.data.toList.drop k) = _ from hp_at s k hlt 42 (by decide) [47], hp_off s (k + 1) h2, Bool.and_false])
          have h92 : ((s[k].toNat : Int) == 92) = false := by
            have := h1
            simp at this ⊢
            omega
          have H92 : Hid ((bt s k == 92) = false) := Lib.hid (by rw [← Q.out, ← h92]; exact (eqb _ 92 (by decide)).symm)
          have QI := Lib.hid Q.out
          have Y : Hid (res = if okB (bt s k) = false then ([], 0, 8) else if acc.length = 1024 then ([], 0, 3) else rd 1 (s.data.toList.drop (k + 1)) false (acc ++ [bt s k]) (k + 1)) := Lib.hid (by
            rw [X.out, CL.out, if_neg (show ¬ (false = true) by decide), H92.out, if_neg (show ¬ (false = true) by decide)])
          cases hok : okB (bt s (k)) with
          | false =>
            have F : Hid (res = ([], 0, 8)) := Lib.hid (by rw [Y.out, hok]; rfl)
            have OK := Lib.hid hok
            clear hok
            go_wp2_with fail
            refine (right_any _ _).mono ?_
            rw [QI.out, show okZ ((bt s (k)).toNat : Int) = false from OK.out]
            rintro e w4 ⟨rfl, rfl⟩
            go_wp2_with fail
            go_ret3
            refine ⟨?_, O2.out.bel⟩
            rw [F.out]
            rfl
          | true =>
            have OK := Lib.hid hok
            clear hok
            by_cases hfull : acc.length = 1024
            · have F : Hid (res = ([], 0, 3)) := Lib.hid (by rw [Y.out, OK.out, if_neg (by decide), if_pos hfull])
              have hf : ((acc.length : Int) == 1024) = true := by simp; omega
              clear hfull
              go_wp2_with fail
              refine (right_any _ _).mono ?_
              rw [QI.out, show okZ ((bt s (k)).toNat : Int) = true from OK.out]
              rintro e w4 ⟨rfl, rfl⟩
              go_wp2_with fail
              go_ret3
              refine ⟨?_, O2.out.bel⟩
              rw [F.out]
              rfl
            · have F : Hid (rd 1 (s.data.toList.drop (k + 1)) false (acc ++ [bt s (k)]) (k + 1) = res) := Lib.hid (by rw [Y.out, OK.out, if_neg (by decide), if_neg hfull])
              have hf : ((acc.length : Int) == 1024) = false := by simp; omega
              have hal2 : acc.length + 1 ≤ 1024 := by omega
              clear hfull
              go_wp2_with fail
              refine (right_any _ _).mono ?_
              rw [QI.out, show okZ ((bt s (k)).toNat : Int) = true from OK.out]
              rintro e w4 ⟨rfl, rfl⟩
              go_wp2_with (at_builtin; refine wp_app rfl (.tmp 100) (.tmp 102) rfl #[.int .u8 ((bt s (k)).toNat : Nat)] [bt s (k)] 1 rfl rfl O2.out rfl rfl (by omega) (by decide) ?_)
              intro v5 w5 o5
              have O5 := Lib.hid o5
              clear o5
              go_wp2_with fail
              go_roundw
              case rel => exact ⟨k + 1, _, by go_num, O5.out, F.out, by simp; omega, by omega⟩
              case measure => simp [intOf]; omega
      | false =>
        have CL : Hid (clos 1 (s.data.toList.drop k) = false) := Lib.hid (by
          rw [show clos 1 (s.data.toList.drop k) = _ from hp_at s k hlt 42 (by decide) [47]]
          rw [show (((42 : Nat)) : Int) = 42 from rfl, h1]; rfl)
        cases h92 : ((s[k].toNat : Int) == 92) with
        | true =>
          have H92 : Hid ((bt s k == 92) = true) := Lib.hid (by rw [← Q.out, ← h92]; exact (eqb _ 92 (by decide)).symm)
          by_cases hk1 : k + 1 < s.size
          · have QI := Lib.hid (bt_eq s (k + 1) hk1)
            have hie : (((k : Int) + 1) == (s.size : Int)) = false := by simp; omega
            have Z : Hid (res = if (bt s (k + 1) == 92 || bt s (k + 1) == 42) = true then (if acc.length = 1024 then ([], 0, 3) else rd 1 (s.data.toList.drop (k + 2)) false (acc ++ [bt s (k + 1)]) (k + 2)) else ([], 0, 8)) := Lib.hid (by
              rw [X.out, CL.out, if_neg (by decide), H92.out, if_pos rfl, drop_bt s (k + 1) hk1, rd_t]; rfl)
            have ea : ((s[k + 1].toNat : Int) != 92) = !(bt s (k + 1) == 92) := by unfold bne; rw [show ((s[k + 1].toNat : Int) == 92) = _ from eqb _ 92 (by decide), QI.out]; rfl
            have eb : ((s[k + 1].toNat : Int) == 42) = (bt s (k + 1) == 42) := by rw [show ((s[k + 1].toNat : Int) == 42) = _ from eqb _ 42 (by decide), QI.out]; rfl
            cases g1 : (bt s (k + 1) == 92) with
            | true =>
              have Y : Hid (res = if okB (bt s (k + 1)) = false then ([], 0, 8) else if acc.length = 1024 then ([], 0, 3) else rd 1 (s.data.toList.drop (k + 2)) false (acc ++ [bt s (k + 1)]) (k + 2)) := Lib.hid (by
                rw [Z.out, g1, if_pos (by rfl), show okB (bt s (k + 1)) = true by rw [eq_of_beq g1]; decide, if_neg (show ¬ (true = false) by decide)])
              rw [g1] at ea
              clear g1 eb
              cases hok : okB (bt s (k + 1)) with
              | false =>
                have F : Hid (res = ([], 0, 8)) := Lib.hid (by rw [Y.out, hok]; rfl)
                have OK := Lib.hid hok
                clear hok
                go_wp2_with fail
                refine (right_any _ _).mono ?_
                rw [QI.out, show okZ ((bt s (k + 1)).toNat : Int) = false from OK.out]
                rintro e w4 ⟨rfl, rfl⟩
                go_wp2_with fail
                go_ret3
                refine ⟨?_, O2.out.bel⟩
                rw [F.out]
                rfl
              | true =>
                have OK := Lib.hid hok
                clear hok
                by_cases hfull : acc.length = 1024
                · have F : Hid (res = ([], 0, 3)) := Lib.hid (by rw [Y.out, OK.out, if_neg (by decide), if_pos hfull])
                  have hf : ((acc.length : Int) == 1024) = true := by simp; omega
                  clear hfull
                  go_wp2_with fail
                  refine (right_any _ _).mono ?_
                  rw [QI.out, show okZ ((bt s (k + 1)).toNat : Int) = true from OK.out]
                  rintro e w4 ⟨rfl, rfl⟩
                  go_wp2_with fail
                  go_ret3
                  refine ⟨?_, O2.out.bel⟩
                  rw [F.out]
                  rfl
                · have F : Hid (rd 1 (s.data.toList.drop (k + 2)) false (acc ++ [bt s (k + 1)]) (k + 2) = res) := Lib.hid (by rw [Y.out, OK.out, if_neg (by decide), if_neg hfull])
                  have hf : ((acc.length : Int) == 1024) = false := by simp; omega
                  have hal2 : acc.length + 1 ≤ 1024 := by omega
                  clear hfull
                  go_wp2_with fail
                  refine (right_any _ _).mono ?_
                  rw [QI.out, show okZ ((bt s (k + 1)).toNat : Int) = true from OK.out]
                  rintro e w4 ⟨rfl, rfl⟩
                  go_wp2_with (at_builtin; refine wp_app rfl (.tmp 100) (.tmp 102) rfl #[.int .u8 ((bt s (k + 1)).toNat : Nat)] [bt s (k + 1)] 1 rfl rfl O2.out rfl rfl (by omega) (by decide) ?_)
                  intro v5 w5 o5
                  have O5 := Lib.hid o5
                  clear o5
                  go_wp2_with fail
                  go_roundw
                  case rel => exact ⟨k + 2, _, by go_num, O5.out, F.out, by simp; omega, by omega⟩
                  case measure => simp [intOf]; omega
            | false =>
              rw [g1] at ea
              cases g2 : (bt s (k + 1) == 42) with
              | true =>
                have Y : Hid (res = if okB (bt s (k + 1)) = false then ([], 0, 8) else if acc.length = 1024 then ([], 0, 3) else rd 1 (s.data.toList.drop (k + 2)) false (acc ++ [bt s (k + 1)]) (k + 2)) := Lib.hid (by
                  rw [Z.out, g1, g2, if_pos (by rfl), show okB (bt s (k + 1)) = true by rw [eq_of_beq g2]; decide, if_neg (show ¬ (true = false) by decide)])
                rw [g2] at eb
                clear g1 g2
                cases hok : okB (bt s (k + 1)) with
                | false =>
                  have F : Hid (res = ([], 0, 8)) := Lib.hid (by rw [Y.out, hok]; rfl)
                  have OK := Lib.hid hok
                  clear hok
                  go_wp2_with fail
                  refine (right_any _ _).mono ?_
                  rw [QI.out, show okZ ((bt s (k + 1)).toNat : Int) = false from OK.out]
                  rintro e w4 ⟨rfl, rfl⟩
                  go_wp2_with fail
                  go_ret3
                  refine ⟨?_, O2.out.bel⟩
                  rw [F.out]
                  rfl
                | true =>
                  have OK := Lib.hid hok
                  clear hok
                  by_cases hfull : acc.length = 1024
                  · have F : Hid (res = ([], 0, 3)) := Lib.hid (by rw [Y.out, OK.out, if_neg (by decide), if_pos hfull])
                    have hf : ((acc.length : Int) == 1024) = true := by simp; omega
                    clear hfull
                    go_wp2_with fail
                    refine (right_any _ _).mono ?_
                    rw [QI.out, show okZ ((bt s (k + 1)).toNat : Int) = true from OK.out]
                    rintro e w4 ⟨rfl, rfl⟩
                    go_wp2_with fail
                    go_ret3
                    refine ⟨?_, O2.out.bel⟩
                    rw [F.out]
                    rfl
                  · have F : Hid (rd 1 (s.data.toList.drop (k + 2)) false (acc ++ [bt s (k + 1)]) (k + 2) = res) := Lib.hid (by rw [Y.out, OK.out, if_neg (by decide), if_neg hfull])
                    have hf : ((acc.length : Int) == 1024) = false := by simp; omega
                    have hal2 : acc.length + 1 ≤ 1024 := by omega
                    clear hfull
                    go_wp2_with fail
                    refine (right_any _ _).mono ?_
                    rw [QI.out, show okZ ((bt s (k + 1)).toNat : Int) = true from OK.out]
                    rintro e w4 ⟨rfl, rfl⟩
                    go_wp2_with (at_builtin; refine wp_app rfl (.tmp 100) (.tmp 102) rfl #[.int .u8 ((bt s (k + 1)).toNat : Nat)] [bt s (k + 1)] 1 rfl rfl O2.out rfl rfl (by omega) (by decide) ?_)
                    intro v5 w5 o5
                    have O5 := Lib.hid o5
                    clear o5
                    go_wp2_with fail
                    go_roundw
                    case rel => exact ⟨k + 2, _, by go_num, O5.out, F.out, by simp; omega, by omega⟩
                    case measure => simp [intOf]; omega
              | false =>
                have F : Hid (res = ([], 0, 8)) := Lib.hid (by rw [Z.out, g1, g2, if_neg (by decide)])
                rw [g2] at eb
                clear g1 g2
                go_wp2_with fail
                go_ret3
                refine ⟨?_, O2.out.bel⟩
                rw [F.out]
                rfl
          · have F : Hid (res = ([], 0, 8)) := Lib.hid (by
              rw [X.out, CL.out, if_neg (by decide), H92.out, if_pos rfl, drop_end s (k + 1) hk1, rd_nil])
            have hie : (((k : Int) + 1) == (s.size : Int)) = true := by simp; omega
            go_wp2_with fail
            go_ret3
            refine ⟨?_, O2.out.bel⟩
            rw [F.out]
            rfl
        | false =>
          have H92 : Hid ((bt s k == 92) = false) := Lib.hid (by rw [← Q.out, ← h92]; exact (eqb _ 92 (by decide)).symm)
          have QI := Lib.hid Q.out
          have Y : Hid (res = if okB (bt s k) = false then ([], 0, 8) else if acc.length = 1024 then ([], 0, 3) else rd 1 (s.data.toList.drop (k + 1)) false (acc ++ [bt s k]) (k + 1)) := Lib.hid (by
            rw [X.out, CL.out, if_neg (show ¬ (false = true) by decide), H92.out, if_neg (show ¬ (false = true) by decide)])
          cases hok : okB (bt s (k)) with
          | false =>
            have F : Hid (res = ([], 0, 8)) := Lib.hid (by rw [Y.out, hok]; rfl)
            have OK := Lib.hid hok
            clear hok
            go_wp2_with fail
            refine (right_any _ _).mono ?_
            rw [QI.out, show okZ ((bt s (k)).toNat : Int) = false from OK.out]
            rintro e w4 ⟨rfl, rfl⟩
            go_wp2_with fail
            go_ret3
            refine ⟨?_, O2.out.bel⟩
            rw [F.out]
            rfl
          | true =>
            have OK := Lib.hid hok
            clear hok
            by_cases hfull : acc.length = 1024
            · have F : Hid (res = ([], 0, 3)) := Lib.hid (by rw [Y.out, OK.out, if_neg (by decide), if_pos hfull])
              have hf : ((acc.length : Int) == 1024) = true := by simp; omega
              clear hfull
              go_wp2_with fail
              refine (right_any _ _).mono ?_
              rw [QI.out, show okZ ((bt s (k)).toNat : Int) = true from OK.out]
              rintro e w4 ⟨rfl, rfl⟩
              go_wp2_with fail
              go_ret3
              refine ⟨?_, O2.out.bel⟩
              rw [F.out]
              rfl
            · have F : Hid (rd 1 (s.data.toList.drop (k + 1)) false (acc ++ [bt s (k)]) (k + 1) = res) := Lib.hid (by rw [Y.out, OK.out, if_neg (by decide), if_neg hfull])
              have hf : ((acc.length : Int) == 1024) = false := by simp; omega
              have hal2 : acc.length + 1 ≤ 1024 := by omega
              clear hfull
              go_wp2_with fail
              refine (right_any _ _).mono ?_
              rw [QI.out, show okZ ((bt s (k)).toNat : Int) = true from OK.out]
              rintro e w4 ⟨rfl, rfl⟩
              go_wp2_with (at_builtin; refine wp_app rfl (.tmp 100) (.tmp 102) rfl #[.int .u8 ((bt s (k)).toNat : Nat)] [bt s (k)] 1 rfl rfl O2.out rfl rfl (by omega) (by decide) ?_)
              intro v5 w5 o5
              have O5 := Lib.hid o5
              clear o5
              go_wp2_with fail
              go_roundw
              case rel => exact ⟨k + 1, _, by go_num, O5.out, F.out, by simp; omega, by omega⟩
              case measure => simp [intOf]; omega
    · have F : Hid (res = ([], 0, 8)) := Lib.hid (by rw [← RD.out, drop_end s k hlt, rd_nil])
      go_wp2_with fail
      go_ret3
      refine ⟨?_, O2.out.bel⟩
      rw [F.out]
      rfl
set_option maxHeartbeats 400000 in
theorem refRead_not (d : Int) (s : ByteArray) (w : World) (hd : Dia d) (hb : begL d s.data.toList = false) :
    Calls Tryd.prog 42 #[.int .i64 d, .string s] w fun e w' => e = .returned (ans ([], 0, 8)) ∧ Below w.heap.size w w' := by
  have HB := Lib.hid hb
  clear hb
  rcases hd with rfl | rfl
  · go_enter Tryd.func42, Tryd.ntmps42
    go_wp2_with fail
    refine (refBeg_0 s _).mono ?_
    rw [HB.out]
    rintro e w1 ⟨rfl, rfl⟩
    go_wp2_with fail
    go_ret3
    exact ⟨rfl, Below.refl _ _⟩
  · go_enter Tryd.func42, Tryd.ntmps42
    go_wp2_with fail
    refine (refBeg_1 s _).mono ?_
    rw [HB.out]
    rintro e w1 ⟨rfl, rfl⟩
    go_wp2_with fail
    go_ret3
    exact ⟨rfl, Below.refl _ _⟩
theorem refRead_any (d : Int) (s : ByteArray) (w : World) (hs : s.size ≤ maxLen) :
    Calls Tryd.prog 42 #[.int .i64 d, .string s] w fun e w' => e = .returned (ans (readL d s.data.toList)) ∧ Below w.heap.size w w' := by
  unfold readL
  by_cases hd : Dia d
  · have hbl : begL d s.data.toList = begs d s.data.toList := by unfold begL; rw [hd.b]; rfl
    rw [hd.b, if_neg (by decide)]
    cases hb : begs d s.data.toList with
    | false => rw [if_pos rfl]; exact refRead_not d s w hd (by rw [hbl, hb])
    | true =>
      rw [if_neg (by decide)]
      have hz := begs_size d s hb
      rcases hd with rfl | rfl
      · exact refRead_yes0 s _ w rfl hs (by rw [show (opL 0).length = 1 from rfl] at hz; omega) (by rw [hbl, hb])
      · exact refRead_yes1 s _ w rfl hs (by rw [show (opL 1).length = 2 from rfl] at hz; omega) (by rw [hbl, hb])
  · rw [not_dia hd, if_pos rfl]
    exact refRead_no d s w hd
end Go.Proofs.YtjdmaindoohmkaaDoor
