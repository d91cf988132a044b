/-
  LexPasJoins, walked.
-/
import Derived.Test.YtjdmaindoohmkaaDoorPJst
import Derived.Deep.RegionHeld3
namespace Go.Proofs.YtjdmaindoohmkaaDoor.P
open Go.RowKit Go.Sort

theorem elem23 : Tryd.prog.elem 23 = 38 := by kernel_rfl
set_option maxRecDepth 100000 in
theorem slice_head (b o k cap m : Nat) (hm : m ≤ cap) : ∀ w, (Instr.slice 23 (.slice (some ⟨b, o, none⟩) k cap) none (some (.int .i64 (m : Int))) none).run Tryd.prog w = .ok (.slice (some ⟨b, o, none⟩) m cap) w := fun w => by
  rw [run_slice_h w 23 (some ⟨b, o, none⟩) k cap Tryd.underlying23 .i64 (m : Int) (by omega) (by omega), elem23, Tryd.sizeOf38 w]
  simp [Result.andThen, sliced, Addr.add_mid]

set_option maxRecDepth 100000 in
set_option maxHeartbeats 2000000 in
theorem joins_long (s t : ByteArray) (w : World) (hl : 3000 < s.size ∨ (s.size ≤ 3000 ∧ 3000 < t.size)) : Calls Tryd.prog 7 #[.string s, .string t] w fun e w' => e = .returned (.bool true) ∧ Below w.heap.size w w' := by
  rcases hl with hl | ⟨hl, hl2⟩
  · have d : decide ((3000 : Int) < (s.size : Int)) = true := by simp; omega
    go_enter Tryd.func7, Tryd.ntmps7
    go_wp2_with fail
    refine (awake_any _).mono ?_
    rintro e w1 ⟨rfl, b1⟩
    have B1 := Lib.hid b1
    clear b1
    go_wp2_with fail
    go_ret
    exact ⟨rfl, B1.out⟩
  · have d : decide ((3000 : Int) < (s.size : Int)) = false := by simp; omega
    have d2 : decide ((3000 : Int) < (t.size : Int)) = true := by simp; omega
    go_enter Tryd.func7, Tryd.ntmps7
    go_wp2_with fail
    refine (awake_any _).mono ?_
    rintro e w1 ⟨rfl, b1⟩
    have B1 := Lib.hid b1
    clear b1
    go_wp2_with fail
    go_ret
    exact ⟨rfl, B1.out⟩
set_option maxRecDepth 100000 in
set_option maxHeartbeats 4000000 in
theorem joins_any (s t : ByteArray) (w : World) (hs : s.size ≤ 3000) (ht : t.size ≤ 3000) : Calls Tryd.prog 7 #[.string s, .string t] w fun e w' => e = .returned (.bool true) ∧ Below w.heap.size w w' := by
  have d : decide ((3000 : Int) < (s.size : Int)) = false := by simp; omega
  have d2 : decide ((3000 : Int) < (t.size : Int)) = false := by simp; omega
  obtain ⟨u, hu⟩ : ∃ u, u = s ++ ⟨#[32]⟩ ++ t := ⟨_, rfl⟩
  have hul : u.data.toList = s.data.toList ++ 32 :: t.data.toList := by rw [hu]; simp
  have hus : u.size = s.size + 1 + t.size := by rw [← len_size u, hul, List.length_append, List.length_cons, len_size, len_size]; omega
  have LJ := Lib.hid (lex_join s t u hul (by omega))
  have ls := lex_len s
  have lt := lex_len t
  have BP := Lib.hid (lex_places t).1
  have BP2 := Lib.hid (lex_places t).2
  have lu := lex_len u
  have HU := Lib.hid hu
  generalize hA : lexAll s = A at LJ ls
  generalize hB : lexAll t = B at LJ lt BP BP2
  generalize hC : lexAll u = C at LJ lu
  have HA := Lib.hid hA
  have HB := Lib.hid hB
  have HC := Lib.hid hC
  have HUS := Lib.hid hus
  have hul2 : u.size ≤ 6001 := by omega
  clear hu hul hA hB hC hus
  go_enter Tryd.func7, Tryd.ntmps7
  go_wp2_with fail
  refine (lex_any s _).mono ?_
  unfold LexPost diagV
  rw [HA.out]
  rintro e w1 ⟨va, rfl, oa, b1⟩
  have OA := Lib.hid oa
  have B1 := Lib.hid b1
  clear oa b1
  go_wp2_with fail
  have OA2 := Lib.hid (OA.out.below ((Below.refl _ _).alloc (Nat.le_refl _) (.cells #[.int .i64 (A.code : Nat), .int .i64 (A.pos : Nat), .int .i64 (lineOf s A.pos : Nat), .int .i64 (colOf s A.pos : Nat)] 28)))
  have B2 := Lib.hid (B1.out.alloc B1.out.size (.cells #[.int .i64 (A.code : Nat), .int .i64 (A.pos : Nat), .int .i64 (lineOf s A.pos : Nat), .int .i64 (colOf s A.pos : Nat)] 28))
  have hd2 := heap_new w1 (.cells #[.int .i64 (A.code : Nat), .int .i64 (A.pos : Nat), .int .i64 (lineOf s A.pos : Nat), .int .i64 (colOf s A.pos : Nat)] 28)
  generalize w1.alloc (.cells #[.int .i64 (A.code : Nat), .int .i64 (A.pos : Nat), .int .i64 (lineOf s A.pos : Nat), .int .i64 (colOf s A.pos : Nat)] 28) = w2 at OA2 B2 hd2 ⊢
  have HD2 := Lib.hid hd2
  clear hd2 OA B1
  refine (lex_any t _).mono ?_
  unfold LexPost diagV
  rw [HB.out]
  rintro e w3 ⟨vb, rfl, ob, b3⟩
  have OA3 := Lib.hid (OA2.out.below b3)
  have OB3 := Lib.hid ob
  have B3 := Lib.hid (B2.out.trans (b3.mono B2.out.size))
  have HD3 := Lib.hid ((b3.block _ (heap_lt HD2.out)).trans HD2.out)
  clear ob b3 OA2 B2 HD2
  go_wp2_with fail
  have OA4 := Lib.hid (OA3.out.below ((Below.refl _ _).alloc (Nat.le_refl _) (.cells #[.int .i64 (B.code : Nat), .int .i64 (B.pos : Nat), .int .i64 (lineOf t B.pos : Nat), .int .i64 (colOf t B.pos : Nat)] 28)))
  have OB4 := Lib.hid (OB3.out.below ((Below.refl _ _).alloc (Nat.le_refl _) (.cells #[.int .i64 (B.code : Nat), .int .i64 (B.pos : Nat), .int .i64 (lineOf t B.pos : Nat), .int .i64 (colOf t B.pos : Nat)] 28)))
  have B4 := Lib.hid (B3.out.alloc B3.out.size (.cells #[.int .i64 (B.code : Nat), .int .i64 (B.pos : Nat), .int .i64 (lineOf t B.pos : Nat), .int .i64 (colOf t B.pos : Nat)] 28))
  have HD4 := Lib.hid ((((Below.refl _ _).alloc (Nat.le_refl _) (.cells #[.int .i64 (B.code : Nat), .int .i64 (B.pos : Nat), .int .i64 (lineOf t B.pos : Nat), .int .i64 (colOf t B.pos : Nat)] 28)).block _ (heap_lt HD3.out)).trans HD3.out)
  have HE4 := Lib.hid (heap_new w3 (.cells #[.int .i64 (B.code : Nat), .int .i64 (B.pos : Nat), .int .i64 (lineOf t B.pos : Nat), .int .i64 (colOf t B.pos : Nat)] 28))
  generalize w3.alloc (.cells #[.int .i64 (B.code : Nat), .int .i64 (B.pos : Nat), .int .i64 (lineOf t B.pos : Nat), .int .i64 (colOf t B.pos : Nat)] 28) = w4 at OA4 OB4 B4 HD4 HE4 ⊢
  clear OA3 OB3 B3 HD3
  rw [← HU.out]
  refine (lex_any u _).mono ?_
  unfold LexPost diagV
  rw [HC.out]
  rintro e w5 ⟨vc, rfl, oc, b5⟩
  have OA5 := Lib.hid (OA4.out.below b5)
  have OB5 := Lib.hid (OB4.out.below b5)
  have OC5 := Lib.hid oc
  have B5 := Lib.hid (B4.out.trans (b5.mono B4.out.size))
  have HD5 := Lib.hid ((b5.block _ (heap_lt HD4.out)).trans HD4.out)
  have HE5 := Lib.hid ((b5.block _ (heap_lt HE4.out)).trans HE4.out)
  clear oc b5 OA4 OB4 B4 HD4 HE4
  have f0 : w5.cell? ⟨w1.heap.size, 0, none⟩ = some (.int .i64 (A.code : Nat)) := by have := HD5.out; simp [World.cell?, this]
  have e0 : w5.cell? ⟨w3.heap.size, 0, none⟩ = some (.int .i64 (B.code : Nat)) := by have := HE5.out; simp [World.cell?, this]
  have e1 : w5.cell? ⟨w3.heap.size, 1, none⟩ = some (.int .i64 (B.pos : Nat)) := by have := HE5.out; simp [World.cell?, this]
  have hf0 : w1.heap.size < w5.heap.size := heap_lt HD5.out
  have he0 : w3.heap.size < w5.heap.size := heap_lt HE5.out
  by_cases ha : A.code = 0
  · obtain ⟨j1, j2, j3, j4⟩ := LJ.out ha
    have d3 : ((A.code : Int) != 0) = false := by rw [ha]; rfl
    have J3 := Lib.hid j3
    have J4 := Lib.hid j4
    clear j3 j4 ha
    by_cases hb : B.code = 0
    · have d4 : ((B.code : Int) != 0) = false := by rw [hb]; rfl
      obtain ⟨_, lb, eb, hlb, _, _⟩ := BP2.out hb
      have hJ := J3.out hb
      have hc0 : C.code = 0 := by rw [j1]; exact hb
      obtain ⟨xs, tx, hxs⟩ : ∃ xs tx, A.toks.map bareT = xs ++ [tx] := ⟨_, _, (List.dropLast_concat_getLast J4.out).symm⟩
      rw [hxs, List.dropLast_concat] at hJ
      have hxl : xs.length + 1 = A.toks.length := by have := congrArg List.length hxs; simp at this; omega
      have HJ := Lib.hid hJ
      have HXS := Lib.hid hxs
      have HLB := Lib.hid hlb
      have HC0 := Lib.hid hc0
      have hbl : 1 ≤ B.toks.length := by rw [hlb]; simp
      clear hJ hxs hlb j1 j2 hb hc0
      go_wp2_with fail
      have OA6 := Lib.hid (OA5.out.below ((Below.refl _ _).alloc (Nat.le_refl _) (.cells #[.int .i64 (C.code : Nat), .int .i64 (C.pos : Nat), .int .i64 (lineOf u C.pos : Nat), .int .i64 (colOf u C.pos : Nat)] 28)))
      have OB6 := Lib.hid (OB5.out.below ((Below.refl _ _).alloc (Nat.le_refl _) (.cells #[.int .i64 (C.code : Nat), .int .i64 (C.pos : Nat), .int .i64 (lineOf u C.pos : Nat), .int .i64 (colOf u C.pos : Nat)] 28)))
      have OC6 := Lib.hid (OC5.out.below ((Below.refl _ _).alloc (Nat.le_refl _) (.cells #[.int .i64 (C.code : Nat), .int .i64 (C.pos : Nat), .int .i64 (lineOf u C.pos : Nat), .int .i64 (colOf u C.pos : Nat)] 28)))
      have B6 := Lib.hid (B5.out.alloc B5.out.size (.cells #[.int .i64 (C.code : Nat), .int .i64 (C.pos : Nat), .int .i64 (lineOf u C.pos : Nat), .int .i64 (colOf u C.pos : Nat)] 28))
      have HF6 := Lib.hid (heap_new w5 (.cells #[.int .i64 (C.code : Nat), .int .i64 (C.pos : Nat), .int .i64 (lineOf u C.pos : Nat), .int .i64 (colOf u C.pos : Nat)] 28))
      generalize w5.alloc (.cells #[.int .i64 (C.code : Nat), .int .i64 (C.pos : Nat), .int .i64 (lineOf u C.pos : Nat), .int .i64 (colOf u C.pos : Nat)] 28) = w6 at OA6 OB6 OC6 B6 HF6 ⊢
      clear OA5 OB5 OC5 B5 HD5 HE5 f0 e0 e1
      refine (bare_any va A.toks _ OA6.out.toks (by omega)).mono ?_
      rintro e w7 ⟨vx, rfl, ox, b7⟩
      have OX7 := Lib.hid ox
      have OB7 := Lib.hid (OB6.out.below b7)
      have OC7 := Lib.hid (OC6.out.below b7)
      have B7 := Lib.hid (B6.out.trans (b7.mono B6.out.size))
      have HF7 := Lib.hid ((b7.block _ (heap_lt HF6.out)).trans HF6.out)
      have hz7 : w.heap.size ≤ w6.heap.size := B6.out.size
      have hf7 : w5.heap.size < w6.heap.size := heap_lt HF6.out
      clear ox b7 OA6 OB6 OC6 B6 HF6
      go_wp2_with fail
      refine (bare_any vb B.toks _ OB7.out.toks (by omega)).mono ?_
      rintro e w8 ⟨vy, rfl, oy, b8⟩
      have OX8 := Lib.hid (OX7.out.below b8)
      have OC8 := Lib.hid (OC7.out.below b8)
      have B8 := Lib.hid (B7.out.trans (b8.mono B7.out.size))
      have HF8 := Lib.hid ((b8.block _ (heap_lt HF7.out)).trans HF7.out)
      have OX7b := Lib.hid (fun k hk => (OX7.out.lt k hk).2)
      have OY8 := Lib.hid oy
      clear oy b8 OX7 OB7 OC7 B7 HF7
      have hox := OX8.out
      rw [HXS.out] at hox
      obtain ⟨gx, cx, hvx, hgx, hgx2, hcx⟩ : ∃ g cap, vx = .slice (some ⟨g, 0, none⟩) (xs ++ [tx]).length cap ∧ w6.heap.size ≤ g ∧ g < w8.heap.size ∧ (xs ++ [tx]).length ≤ cap := by
        rcases hox.slice with ⟨_, h⟩ | ⟨g, cap, h1, h2, h3, h4, _⟩
        · simp at h
        · exact ⟨g, cap, h1, h2, h3, h4⟩
      obtain ⟨gy, cy, hvy, hgy⟩ : ∃ g cap, vy = .slice (some ⟨g, 0, none⟩) (B.toks.map bareT).length cap ∧ w7.heap.size ≤ g := by
        rcases OY8.out.slice with ⟨_, h⟩ | ⟨g, cap, h1, h2, _⟩
        · rw [List.map_eq_nil_iff] at h; rw [h] at hbl; simp at hbl
        · exact ⟨g, cap, h1, h2⟩
      have hgx7 : gx < w7.heap.size := OX7b.out gx (by rw [hvx]; rfl)
      subst hvx hvy
      have JJ := Lib.hid (show JA w w5.heap.size (.slice (some ⟨gx, 0, none⟩) (xs ++ [tx]).length cx) (.slice (some ⟨gy, 0, none⟩) (B.toks.map bareT).length cy) vc (xs ++ [tx]) (B.toks.map bareT) C.toks w8 from
        ⟨by have := HF8.out; simp [World.cell?, this, HC0.out], hox.mono hz7, fun e => by have : gx = w5.heap.size := Option.some.inj e; omega, OY8.out.toks, fun g hg e => by have e1 : gy = g := Option.some.inj hg; have e2 : gx = g := Option.some.inj e; omega, OC8.out.toks, B8.out⟩)
      clear hox OX8 OC8 OY8 B8 HF8
      have hxl2 : (xs ++ [tx]).length = xs.length + 1 := by simp
      have hyl : (B.toks.map bareT).length = B.toks.length := List.length_map _
      generalize hNN : (xs ++ [tx]).length = N at JJ hxl2 hcx ⊢
      generalize hMM : (B.toks.map bareT).length = M at JJ hyl ⊢
      have HNN := Lib.hid hNN
      have HMM := Lib.hid hMM
      clear hNN hMM
      have C1 := Lib.hid (fun W (h : JA w w5.heap.size (.slice (some ⟨gx, 0, none⟩) N cx) (.slice (some ⟨gy, 0, none⟩) M cy) vc (xs ++ [tx]) (B.toks.map bareT) C.toks W) => h.bare (by omega))
      have hcx2 : N ≤ cx := hcx
      have en : (N : Int) - 1 = (xs.length : Int) := by omega
      have en1 : IntKind.i64.wrap ((N : Int) - 1) = (xs.length : Int) := by rw [en]; exact IntWalk.i64_in _ (by omega)
      have en3 : IntKind.i64.wrap (xs.length : Int) = (xs.length : Int) := IntWalk.i64_in _ (by omega)
      clear en
      have en2 : ((N : Int) == 0) = false := by simp; omega
      have hM1 : M ≤ 100000 := by omega
      have hsl3 : xs.length ≤ cx := by omega
      have hsl4 : decide (xs.length ≤ cx) = true := by simp; omega
      have hslh := slice_head gx 0 N cx xs.length (by omega)
      have hxn : xs.length ≤ 100000 := by omega
      have hbn : B.toks.length ≤ 100000 := by omega
      have hsl1 : (0 : Int) ≤ (xs.length : Int) := by omega
      have hsl2 : (xs.length : Int) ≤ (cx : Int) := by omega
      have HXL := Lib.hid hxl
      clear hcx hxl2 hxl hbl hyl
      go_wp2_with fail
      have hcl := JJ.out.drew.cell
      go_region_held3 (fun w' => w'.cell? ⟨w5.heap.size, 0, none⟩ = some (.int .i64 0)) (first | with_reducible exact hcl | with_reducible exact jb.out.ja.cell | with_reducible exact jc.out.cell | with_reducible exact jd.out.cell | with_reducible exact je.out.cell | with_reducible assumption)
        (first
          | (go_at_call 17; with_reducible refine (C1.out _ JJ.out.drew).mono ?_; rintro e w9 ⟨vz, rfl, hjb⟩; have jb := Lib.hid hjb; clear hjb)
          | (refine step_appT (by first | rfl | simp [Region.wanted, yielded]) (.tmp 85) (.tmp 86) rfl (OwnT.cut (by rw [HNN.out]; exact jb.out.ja.x)) (by have := jb.out.ja.bel.size; exact this) jb.out.ja.y.flat.1 jb.out.ja.y.flat.2 (by first | rfl | simp) (by first | rfl | simp) (by first | omega | (simp; omega)) ?_; intro v10 w10 o10 g10; have jc := Lib.hid (JB.app (by rw [HNN.out]; exact jb.out) o10 g10 HJ.out.symm); clear o10 g10)
          | (go_at_call 15; with_reducible refine (jc.out.same).mono ?_; rintro e w11 ⟨rfl, hjd⟩; have jd := Lib.hid hjd; clear hjd)
          | (go_at_call 12; with_reducible refine (jd.out.awake).mono ?_; rintro e w12 ⟨rfl, hje⟩; have je := Lib.hid hje; clear hje))
      go_wp2_with fail
      go_ret
      exact ⟨rfl, je.out.bel⟩
    · have d4 : ((B.code : Int) != 0) = true := by simp; omega
      have hp := j2 hb
      have d5 : ((C.pos : Int) == (s.size : Int) + 1 + (B.pos : Int)) = true := by rw [hp]; simp
      have d6 : ((C.code : Int) == (B.code : Int)) = true := by rw [j1]; simp
      have d6' : (C.code == B.code) = true := by rw [j1]; simp
      have hbp : (B.pos : Int) ≤ 3000 := by have := (BP.out hb).2; omega
      have hbp0 : (0 : Int) ≤ (B.pos : Int) := by omega
      have hsi : (s.size : Int) ≤ 3000 := by omega
      clear j1 j2 hb hp
      go_wp2_with fail
      refine (awake_any _).mono ?_
      rintro e w7 ⟨rfl, b7⟩
      have B7 := Lib.hid ((B5.out.alloc B5.out.size (.cells #[.int .i64 (C.code : Nat), .int .i64 (C.pos : Nat), .int .i64 (lineOf u C.pos : Nat), .int .i64 (colOf u C.pos : Nat)] 28)).trans (b7.mono (B5.out.alloc B5.out.size (.cells #[.int .i64 (C.code : Nat), .int .i64 (C.pos : Nat), .int .i64 (lineOf u C.pos : Nat), .int .i64 (colOf u C.pos : Nat)] 28)).size))
      clear b7
      go_wp2_with fail
      go_ret
      exact ⟨rfl, B7.out⟩
  · have d3 : ((A.code : Int) != 0) = true := by simp; omega
    go_wp2_with fail
    refine (awake_any _).mono ?_
    rintro e w7 ⟨rfl, b7⟩
    have B7 := Lib.hid ((B5.out.alloc B5.out.size (.cells #[.int .i64 (C.code : Nat), .int .i64 (C.pos : Nat), .int .i64 (lineOf u C.pos : Nat), .int .i64 (colOf u C.pos : Nat)] 28)).trans (b7.mono (B5.out.alloc B5.out.size (.cells #[.int .i64 (C.code : Nat), .int .i64 (C.pos : Nat), .int .i64 (lineOf u C.pos : Nat), .int .i64 (colOf u C.pos : Nat)] 28)).size))
    clear b7
    go_wp2_with fail
    go_ret
    exact ⟨rfl, B7.out⟩
theorem lexPasJoins_walk (s t : ByteArray) (w : World) : Calls Tryd.prog 7 #[.string s, .string t] w fun e w' => e = .returned (.bool true) ∧ Below w.heap.size w w' := by
  by_cases h : s.size ≤ 3000
  · by_cases h2 : t.size ≤ 3000
    · exact joins_any s t w h h2
    · exact joins_long s t w (.inr ⟨h, by omega⟩)
  · exact joins_long s t w (.inl (by omega))
end Go.Proofs.YtjdmaindoohmkaaDoor.P
