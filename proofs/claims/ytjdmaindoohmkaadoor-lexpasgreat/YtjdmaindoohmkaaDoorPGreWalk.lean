/-
  LexPasGreat, walked.
-/
import Derived.Test.YtjdmaindoohmkaaDoorPAwk
import Derived.Test.YtjdmaindoohmkaaDoorPGrt
import Derived.Test.YtjdmaindoohmkaaDoorPPlaWalk
import Derived.Test.YtjdmaindoohmkaaDoorPByt
namespace Go.Proofs.YtjdmaindoohmkaaDoor.P
open Go.RowKit Go.Sort

theorem up_toNat (c : UInt8) (h1 : 97 ≤ c.toNat) (h2 : c.toNat ≤ 122) : (upB c).toNat + 32 = c.toNat := by
  have := all8 (q := fun c => !(decide (97 ≤ c.toNat) && decide (c.toNat ≤ 122)) || decide ((upB c).toNat + 32 = c.toNat)) (by decide +kernel) c
  rw [decide_eq_true h1, decide_eq_true h2] at this
  simpa using this
theorem upTo_same {l : List UInt8} {k : Nat} {c : UInt8} (h : (upTo l k)[k]? = some c) : (upTo l k).set k c = upTo l k := by
  obtain ⟨hk, rfl⟩ := List.getElem?_eq_some_iff.1 h
  exact List.set_getElem_self hk
set_option maxRecDepth 100000 in
set_option maxHeartbeats 2000000 in
theorem great_long (s : ByteArray) (w : World) (hl : 3000 < s.size) : Calls Tryd.prog 5 #[.string s] w fun e w' => e = .returned (.bool true) ∧ Below w.heap.size w w' := by
  have d : decide ((3000 : Int) < (s.size : Int)) = true := by simp; omega
  go_enter Tryd.func5, Tryd.ntmps5
  go_wp2_with fail
  refine (awake_any _).mono ?_
  rintro e w1 ⟨rfl, b1⟩
  have B1 := Lib.hid b1
  clear b1
  go_wp2_with fail
  go_ret
  exact ⟨rfl, B1.out⟩
set_option maxRecDepth 100000 in
set_option maxHeartbeats 4000000 in
theorem great_any (s : ByteArray) (w : World) (hl : s.size ≤ 3000) : Calls Tryd.prog 5 #[.string s] w fun e w' => e = .returned (.bool true) ∧ Below w.heap.size w w' := by
  have d : decide ((3000 : Int) < (s.size : Int)) = false := by simp; omega
  have LF := Lib.hid (lex_from s)
  have hle := lex_len s
  generalize hR : lexAll s = R at LF hle
  have HR := Lib.hid hR
  clear hR
  go_enter Tryd.func5, Tryd.ntmps5
  go_wp2_with fail
  refine (lex_any s _).mono ?_
  unfold LexPost diagV
  rw [HR.out]
  rintro e w1 ⟨v, rfl, o1, b1⟩
  obtain ⟨a, cap, rfl, hcap, hcm, hcells⟩ := o1.any
  have B1 := Lib.hid b1
  have HC := Lib.hid hcells
  clear hcells b1
  unfold maxLen at hcm
  by_cases hcode : R.code = 0
  · have d1 : ((R.code : Int) != 0) = false := by rw [hcode]; rfl
    have B2 := Lib.hid (B1.out.alloc B1.out.size (.cells #[.int .i64 (R.code : Nat), .int .i64 (R.pos : Nat), .int .i64 (lineOf s R.pos : Nat), .int .i64 (colOf s R.pos : Nat)] 28))
    have O2 := Lib.hid (o1.below ((Below.refl _ _).alloc (Nat.le_refl _) (.cells #[.int .i64 (R.code : Nat), .int .i64 (R.pos : Nat), .int .i64 (lineOf s R.pos : Nat), .int .i64 (colOf s R.pos : Nat)] 28)))
    clear o1 HC
    generalize hn : R.toks.length = n at *
    have HN := Lib.hid hn
    clear hn hcode
    go_wp2_with fail
    generalize w1.alloc (.cells #[.int .i64 (R.code : Nat), .int .i64 (R.pos : Nat), .int .i64 (lineOf s R.pos : Nat), .int .i64 (colOf s R.pos : Nat)] 28) = w2 at B2 O2 ⊢
    go_loopw [5] (fun i wr => ∃ k : Nat, k ≤ n ∧ i = .int .i64 k ∧ Below w2.heap.size w2 wr) (fun i _ => n - (intOf i).toNat)
    case atStart => exact ⟨0, Nat.zero_le _, rfl, Below.refl _ _⟩
    case round =>
      obtain ⟨k, hk, rfl, hb⟩ := hrel
      have BR := Lib.hid hb
      clear hb
      by_cases hlt : k < n
      · obtain ⟨t, ht⟩ : ∃ t, R.toks[k]? = some t := ⟨R.toks[k]'(by rw [HN.out]; exact hlt), List.getElem?_eq_getElem _⟩
        obtain ⟨g, hga, hg1, hg3, hcl⟩ : ∃ g, a = some ⟨g, 0, none⟩ ∧ w.heap.size ≤ g ∧ g < w2.heap.size ∧ ∀ i t, R.toks[i]? = some t → ∀ j u, (tkCells t)[j]? = some u → w2.cell? ⟨g, i * 7 + j, none⟩ = some u := by
          obtain ⟨a', cap', hv, _, _, hx⟩ := O2.out.any
          cases hv
          exact hx (fun e => by rw [e] at ht; simp at ht)
        subst hga
        have q0 : wr.cell? ⟨g, k * 7 + 0, none⟩ = some (.int .i64 (t.kind : Nat)) := (BR.out.cell (p := ⟨g, k * 7 + 0, none⟩) hg3).trans (hcl k t ht 0 _ rfl)
        have q1 : wr.cell? ⟨g, k * 7 + 1, none⟩ = some (.string ⟨t.text.toArray⟩) := (BR.out.cell (p := ⟨g, k * 7 + 1, none⟩) hg3).trans (hcl k t ht 1 _ rfl)
        rw [Nat.add_zero] at q0
        have hgr : g < wr.heap.size := Nat.lt_of_lt_of_le hg3 BR.out.size
        clear hcl
        by_cases hkind : t.kind = 1 ∨ t.kind = 2
        · obtain ⟨nm, hnm, htx, hkd⟩ : ∃ nm, IsNm nm ∧ t.text = nm.map Lib.lowerB ∧ t.kind = nameK (nm.map Lib.lowerB) := by
            obtain ⟨j, l, rfl, he⟩ := LF.out t (List.mem_of_getElem? ht)
            obtain ⟨nm, h1, h2⟩ := tok_name _ he hkind
            exact ⟨nm, h1, by show (fdAt s j).text = _; unfold fdAt; rw [h2], by show (fdAt s j).kind = _; unfold fdAt; rw [h2]⟩
          have hkcases := hkind
          clear hkind
          rcases hkcases with hk1 | hk1
          · have d4 : ((t.kind : Int) != 1) = false := by rw [hk1]; rfl
            clear hk1
            clear ht
            obtain ⟨l, hl0⟩ : ∃ l, l = t.text := ⟨_, rfl⟩
            rw [← hl0] at q1 htx
            obtain ⟨wo, hwo⟩ : ∃ wo, wo = wr := ⟨_, rfl⟩
            subst hwo
            obtain ⟨cb, w3, hconv, hcb, hby, hbw⟩ := conv_any wo l
            have BY := Lib.hid hby
            have BW := Lib.hid hbw
            have hw3 := hby.lt
            have hll : l.length ≤ 32 := by rw [htx, List.length_map]; exact hnm.len
            have HTX := Lib.hid htx
            have HKD := Lib.hid hkd
            clear htx hkd hl0
            clear hby hbw
            go_wp2_with fail
            have Q0 := Lib.hid q0
            have Q1 := Lib.hid q1
            clear hconv q0 q1
            go_loopw [7] (fun i wj => ∃ j : Nat, j ≤ l.length ∧ i = .int .i64 j ∧ BytesAt wj wo.heap.size (upTo l j) ∧ Below wo.heap.size wo wj) (fun i _ => l.length - (intOf i).toNat)
            case atStart => exact ⟨0, Nat.zero_le _, rfl, by rw [upTo_0]; exact BY.out, BW.out⟩
            case round =>
              obtain ⟨j, hj, rfl, hbj, hbwj⟩ := hrel
              have BJ := Lib.hid hbj
              have BWJ := Lib.hid hbwj
              clear hbj hbwj
              have hlen2 := upTo_len l j
              by_cases hjl : j < l.length
              · obtain ⟨c, hc⟩ : ∃ c, l[j]? = some c := ⟨l[j], List.getElem?_eq_getElem hjl⟩
                have qc := BJ.out.cells j c (upTo_at hc)
                have qf := BJ.out.fz j (by omega)
                have US := Lib.hid (upTo_succ hc)
                have US0 := Lib.hid (upTo_at hc)
                have hc8 := UInt8.toNat_lt c
                clear hc hlen2
                by_cases hr1 : 97 ≤ c.toNat
                · by_cases hr2 : c.toNat ≤ 122
                  · have hup : ((upB c).toNat : Int) = (c.toNat : Int) - 97 + 65 := by have := up_toNat c hr1 hr2; omega
                    have HUP := Lib.hid hup
                    clear hup
                    have d2 : decide ((97 : Int) ≤ (c.toNat : Int)) = true := by simp; omega
                    have d3 : decide ((c.toNat : Int) ≤ 122) = true := by simp; omega
                    go_wp2_with fail
                    go_roundw
                    case rel => exact ⟨j + 1, by omega, by go_num, by rw [US.out, ← HUP.out]; exact BJ.out.set (by rw [upTo_len]; exact hjl) _, BWJ.out.setCell (Nat.le_refl _) _⟩
                    case measure => simp [intOf]; omega
                  · have hup : upB c = c := by unfold upB; rw [decide_eq_false hr2, Bool.and_false]; rfl
                    have HUP := Lib.hid hup
                    clear hup
                    have d2 : decide ((97 : Int) ≤ (c.toNat : Int)) = true := by simp; omega
                    have d3 : decide ((c.toNat : Int) ≤ 122) = false := by simp; omega
                    go_wp2_with fail
                    go_roundw
                    case rel => exact ⟨j + 1, by omega, by go_num, by rw [US.out, HUP.out, upTo_same US0.out]; exact BJ.out, BWJ.out⟩
                    case measure => simp [intOf]; omega
                · have hup : upB c = c := by unfold upB; rw [decide_eq_false hr1, Bool.false_and]; rfl
                  have HUP := Lib.hid hup
                  clear hup
                  have d2 : decide ((97 : Int) ≤ (c.toNat : Int)) = false := by simp; omega
                  go_wp2_with fail
                  go_roundw
                  case rel => exact ⟨j + 1, by omega, by go_num, by rw [US.out, HUP.out, upTo_same US0.out]; exact BJ.out, BWJ.out⟩
                  case measure => simp [intOf]; omega
              · obtain rfl : j = l.length := by omega
                have hup := upTo_all l l.length (Nat.le_refl _)
                have BU := BJ.out
                rw [hup] at BU
                have hback := run_convert_bytes_back (P := Tryd.prog) wr 34 9 5 ⟨wo.heap.size, 0, none⟩ cb (l.map upB) Tryd.underlying34 Tryd.underlying5 Tryd.underlying9 (fun j hj => by rw [add_mid2, Nat.zero_add]; exact BU.cells j _ (List.getElem?_eq_getElem hj))
                rw [List.length_map] at hback
                clear BU hup hlen2
                go_wp2_with fail
                obtain ⟨t1, t2, hlx, hk1, hx1⟩ := lex_name hnm.up.1
                rw [hnm.up.2] at hk1 hx1
                rw [← HTX.out] at hlx hk1 hx1
                have HLX := Lib.hid hlx
                refine (lex_any ⟨(l.map upB).toArray⟩ _).mono ?_
                unfold LexPost diagV
                rw [HLX.out]
                rintro e w5 ⟨v5, rfl, o5, b5⟩
                rcases o5.slice with ⟨_, h5⟩ | ⟨g5, cap5, hv5, hg51, hg52, hn5, hm5, hc5⟩
                · cases h5
                have hv5 : v5 = .slice (some ⟨g5, 0, none⟩) 2 cap5 := hv5
                subst hv5
                have hcap5 : 2 ≤ cap5 := hn5
                have x0 : w5.cell? ⟨g5, 0, none⟩ = some (.int .i64 (t1.kind : Nat)) := hc5 0 _ rfl 0 _ rfl
                have x1 : w5.cell? ⟨g5, 1, none⟩ = some (.string ⟨t1.text.toArray⟩) := hc5 0 _ rfl 1 _ rfl
                rw [hk1, HTX.out, ← HKD.out] at x0
                rw [hx1] at x1
                have BB := Lib.hid (BWJ.out.trans (b5.mono BWJ.out.size))
                have y0 := (BB.out.cell (p := ⟨g, k * 7, none⟩) hgr).trans Q0.out
                have y1 := (BB.out.cell (p := ⟨g, k * 7 + 1, none⟩) hgr).trans Q1.out
                have z0 : lineOf ⟨(l.map upB).toArray⟩ 0 = 0 := line_zero _
                have z1 : colOf ⟨(l.map upB).toArray⟩ 0 = 0 := col_zero _
                have hgw : g < w5.heap.size := Nat.lt_of_lt_of_le hgr BB.out.size
                have BF := Lib.hid (BR.out.trans (BB.out.mono BR.out.size))
                clear hc5 o5 b5 hn5 hlx hk1 hx1 hback
                go_wp2_with fail
                go_quiet (fail)
                go_wp2_with fail
                go_roundw
                case rel => exact ⟨k + 1, hlt, by go_num, below_drewN (BF.out.alloc BF.out.size _) _⟩
                case measure => simp [intOf]; omega
          · have d4 : ((t.kind : Int) != 1) = true := by rw [hk1]; rfl
            have d5 : ((t.kind : Int) != 2) = false := by rw [hk1]; rfl
            clear hk1
            clear ht
            obtain ⟨l, hl0⟩ : ∃ l, l = t.text := ⟨_, rfl⟩
            rw [← hl0] at q1 htx
            obtain ⟨wo, hwo⟩ : ∃ wo, wo = wr := ⟨_, rfl⟩
            subst hwo
            obtain ⟨cb, w3, hconv, hcb, hby, hbw⟩ := conv_any wo l
            have BY := Lib.hid hby
            have BW := Lib.hid hbw
            have hw3 := hby.lt
            have hll : l.length ≤ 32 := by rw [htx, List.length_map]; exact hnm.len
            have HTX := Lib.hid htx
            have HKD := Lib.hid hkd
            clear htx hkd hl0
            clear hby hbw
            go_wp2_with fail
            have Q0 := Lib.hid q0
            have Q1 := Lib.hid q1
            clear hconv q0 q1
            go_loopw [7] (fun i wj => ∃ j : Nat, j ≤ l.length ∧ i = .int .i64 j ∧ BytesAt wj wo.heap.size (upTo l j) ∧ Below wo.heap.size wo wj) (fun i _ => l.length - (intOf i).toNat)
            case atStart => exact ⟨0, Nat.zero_le _, rfl, by rw [upTo_0]; exact BY.out, BW.out⟩
            case round =>
              obtain ⟨j, hj, rfl, hbj, hbwj⟩ := hrel
              have BJ := Lib.hid hbj
              have BWJ := Lib.hid hbwj
              clear hbj hbwj
              have hlen2 := upTo_len l j
              by_cases hjl : j < l.length
              · obtain ⟨c, hc⟩ : ∃ c, l[j]? = some c := ⟨l[j], List.getElem?_eq_getElem hjl⟩
                have qc := BJ.out.cells j c (upTo_at hc)
                have qf := BJ.out.fz j (by omega)
                have US := Lib.hid (upTo_succ hc)
                have US0 := Lib.hid (upTo_at hc)
                have hc8 := UInt8.toNat_lt c
                clear hc hlen2
                by_cases hr1 : 97 ≤ c.toNat
                · by_cases hr2 : c.toNat ≤ 122
                  · have hup : ((upB c).toNat : Int) = (c.toNat : Int) - 97 + 65 := by have := up_toNat c hr1 hr2; omega
                    have HUP := Lib.hid hup
                    clear hup
                    have d2 : decide ((97 : Int) ≤ (c.toNat : Int)) = true := by simp; omega
                    have d3 : decide ((c.toNat : Int) ≤ 122) = true := by simp; omega
                    go_wp2_with fail
                    go_roundw
                    case rel => exact ⟨j + 1, by omega, by go_num, by rw [US.out, ← HUP.out]; exact BJ.out.set (by rw [upTo_len]; exact hjl) _, BWJ.out.setCell (Nat.le_refl _) _⟩
                    case measure => simp [intOf]; omega
                  · have hup : upB c = c := by unfold upB; rw [decide_eq_false hr2, Bool.and_false]; rfl
                    have HUP := Lib.hid hup
                    clear hup
                    have d2 : decide ((97 : Int) ≤ (c.toNat : Int)) = true := by simp; omega
                    have d3 : decide ((c.toNat : Int) ≤ 122) = false := by simp; omega
                    go_wp2_with fail
                    go_roundw
                    case rel => exact ⟨j + 1, by omega, by go_num, by rw [US.out, HUP.out, upTo_same US0.out]; exact BJ.out, BWJ.out⟩
                    case measure => simp [intOf]; omega
                · have hup : upB c = c := by unfold upB; rw [decide_eq_false hr1, Bool.false_and]; rfl
                  have HUP := Lib.hid hup
                  clear hup
                  have d2 : decide ((97 : Int) ≤ (c.toNat : Int)) = false := by simp; omega
                  go_wp2_with fail
                  go_roundw
                  case rel => exact ⟨j + 1, by omega, by go_num, by rw [US.out, HUP.out, upTo_same US0.out]; exact BJ.out, BWJ.out⟩
                  case measure => simp [intOf]; omega
              · obtain rfl : j = l.length := by omega
                have hup := upTo_all l l.length (Nat.le_refl _)
                have BU := BJ.out
                rw [hup] at BU
                have hback := run_convert_bytes_back (P := Tryd.prog) wr 34 9 5 ⟨wo.heap.size, 0, none⟩ cb (l.map upB) Tryd.underlying34 Tryd.underlying5 Tryd.underlying9 (fun j hj => by rw [add_mid2, Nat.zero_add]; exact BU.cells j _ (List.getElem?_eq_getElem hj))
                rw [List.length_map] at hback
                clear BU hup hlen2
                go_wp2_with fail
                obtain ⟨t1, t2, hlx, hk1, hx1⟩ := lex_name hnm.up.1
                rw [hnm.up.2] at hk1 hx1
                rw [← HTX.out] at hlx hk1 hx1
                have HLX := Lib.hid hlx
                refine (lex_any ⟨(l.map upB).toArray⟩ _).mono ?_
                unfold LexPost diagV
                rw [HLX.out]
                rintro e w5 ⟨v5, rfl, o5, b5⟩
                rcases o5.slice with ⟨_, h5⟩ | ⟨g5, cap5, hv5, hg51, hg52, hn5, hm5, hc5⟩
                · cases h5
                have hv5 : v5 = .slice (some ⟨g5, 0, none⟩) 2 cap5 := hv5
                subst hv5
                have hcap5 : 2 ≤ cap5 := hn5
                have x0 : w5.cell? ⟨g5, 0, none⟩ = some (.int .i64 (t1.kind : Nat)) := hc5 0 _ rfl 0 _ rfl
                have x1 : w5.cell? ⟨g5, 1, none⟩ = some (.string ⟨t1.text.toArray⟩) := hc5 0 _ rfl 1 _ rfl
                rw [hk1, HTX.out, ← HKD.out] at x0
                rw [hx1] at x1
                have BB := Lib.hid (BWJ.out.trans (b5.mono BWJ.out.size))
                have y0 := (BB.out.cell (p := ⟨g, k * 7, none⟩) hgr).trans Q0.out
                have y1 := (BB.out.cell (p := ⟨g, k * 7 + 1, none⟩) hgr).trans Q1.out
                have z0 : lineOf ⟨(l.map upB).toArray⟩ 0 = 0 := line_zero _
                have z1 : colOf ⟨(l.map upB).toArray⟩ 0 = 0 := col_zero _
                have hgw : g < w5.heap.size := Nat.lt_of_lt_of_le hgr BB.out.size
                have BF := Lib.hid (BR.out.trans (BB.out.mono BR.out.size))
                clear hc5 o5 b5 hn5 hlx hk1 hx1 hback
                go_wp2_with fail
                go_quiet (fail)
                go_wp2_with fail
                go_roundw
                case rel => exact ⟨k + 1, hlt, by go_num, below_drewN (BF.out.alloc BF.out.size _) _⟩
                case measure => simp [intOf]; omega
        · have d2 : ((t.kind : Int) != 1) = true := by simp; omega
          have d3 : ((t.kind : Int) != 2) = true := by simp; omega
          have hk2 : k + 1 ≤ n := by omega
          clear ht q1 hkind
          go_wp2_with fail
          go_roundw
          case rel => exact ⟨k + 1, hk2, by go_num, BR.out⟩
          case measure => simp [intOf]; omega
      · go_wp2_with fail
        refine (awake_any _).mono ?_
        rintro e w5 ⟨rfl, b5⟩
        have B5 := Lib.hid (B2.out.trans ((BR.out.trans (b5.mono BR.out.size)).mono B2.out.size))
        clear b5
        go_wp2_with fail
        go_ret
        exact ⟨rfl, B5.out⟩
  · have d1 : ((R.code : Int) != 0) = true := by simp; omega
    go_wp2_with fail
    refine (awake_any _).mono ?_
    rintro e w5 ⟨rfl, b5⟩
    have B5 := Lib.hid ((B1.out.alloc B1.out.size (.cells #[.int .i64 (R.code : Nat), .int .i64 (R.pos : Nat), .int .i64 (lineOf s R.pos : Nat), .int .i64 (colOf s R.pos : Nat)] 28)).trans (b5.mono (B1.out.alloc B1.out.size (.cells #[.int .i64 (R.code : Nat), .int .i64 (R.pos : Nat), .int .i64 (lineOf s R.pos : Nat), .int .i64 (colOf s R.pos : Nat)] 28)).size))
    clear b5
    go_wp2_with fail
    go_ret
    exact ⟨rfl, B5.out⟩
theorem lexPasGreat_walk (s : ByteArray) (w : World) : Calls Tryd.prog 5 #[.string s] w fun e w' => e = .returned (.bool true) ∧ Below w.heap.size w w' := by
  by_cases h : s.size ≤ 3000
  · exact great_any s w h
  · exact great_long s w (by omega)
end Go.Proofs.YtjdmaindoohmkaaDoor.P
