/-
  The document's printer of expressions, walked: an operation's sign; brackets where they are asked for.
-/
import Derived.Test.YtpcldpnaljheoaaGreatDoorQl8
import Derived.Test.YtpcldpnaljheoaaGreatDoorZz6
namespace Go.Proofs.YtpcldpnaljheoaaGreatDoor
open Go.RowKit Go.Deep Go.Sort

theorem lev_sgn (op : Nat) (h1 : 1 ≤ op) (h2 : op ≤ 24) : levP op = (sgnP (op : Int)).lv := by
  have h : ∀ k : Fin 25, 1 ≤ k.1 → levP k.1 = (sgnP (k.1 : Int)).lv := by decide
  exact h ⟨op, by omega⟩ h1
theorem sign_in (op : Nat) (h1 : 10 ≤ op) (h2 : op ≤ 24) : ∃ k, 1 ≤ k ∧ k < 4 ∧ op ∈ rowO k := by
  have h : ∀ k : Fin 25, 10 ≤ k.1 → (k.1 ∈ rowO 1 ∨ k.1 ∈ rowO 2 ∨ k.1 ∈ rowO 3) := by decide
  rcases h ⟨op, by omega⟩ h1 with h | h | h
  · exact ⟨1, by omega, by omega, h⟩
  · exact ⟨2, by omega, by omega, h⟩
  · exact ⟨3, by omega, by omega, h⟩
theorem sign_at (k : Nat) (h1 : 1 ≤ k) (h3 : k ≤ 3) (i op : Nat) (x : ByteArray) (ho : (rowO k)[i]? = some op) (hx : (rowS k)[i]? = some x) : x = (sgnP (op : Int)).t := by
  have hl := row_len k h1 h3
  have hi := (List.getElem?_eq_some_iff.1 hx).1
  have hi6 : i < 6 := by omega
  have h : ∀ i : Fin 6, ∀ k : Fin 4, 1 ≤ k.1 → ((rowO k.1)[i.1]?).bind (fun op => ((rowS k.1)[i.1]?).map fun x => decide (x = (sgnP (op : Int)).t)) ≠ some false := by decide
  have := h ⟨i, hi6⟩ ⟨k, by omega⟩ h1
  simp only [ho, hx, Option.bind_some, Option.map_some, ne_eq, Option.some.injEq, decide_eq_false_iff_not, Decidable.not_not] at this
  exact this
set_option maxRecDepth 100000 in
set_option maxHeartbeats 2000000 in
theorem rSign_any (op : Nat) (h10 : 10 ≤ op) (h24 : op ≤ 24) (w : World) : Calls Tryz.prog 34 #[.int .i64 0, .int .i64 (op : Nat)] w fun e w' => e = .returned (.string (sgnP (op : Int)).t) ∧ Below w.heap.size w w' := by
  obtain ⟨kk, hkk⟩ := sign_in op h10 h24
  have HIN := Lib.hid hkk
  generalize hL : (sgnP (op : Int)).t = L
  have HL := Lib.hid hL
  clear hL hkk
  go_enter Tryz.func34, Tryz.ntmps34
  go_wp2_with fail
  go_loopw [5] (fun kv wr => ∃ k : Nat, kv = .int .i64 (k : Nat) ∧ 1 ≤ k ∧ k ≤ 4 ∧ (∀ j, 1 ≤ j → j < k → op ∉ rowO j) ∧ Below w.heap.size w wr) (fun kv _ => 4 - (intOf kv).toNat)
  case atStart => exact ⟨1, rfl, by omega, by omega, fun j h1 h2 => by omega, Below.refl _ _⟩
  case round =>
    obtain ⟨k, rfl, hk1, hk4, hno, hB⟩ := hrel
    have HB := Lib.hid hB
    have HNO := Lib.hid hno
    clear hB hno
    go_wp2_with fail
    refine (rlast_any _).mono ?_
    rintro e w1 ⟨rfl, rfl⟩
    by_cases hk : k < 4
    · have d4 : decide ((k : Int) < 4) = true := by simp; omega
      have hlen := row_len k hk1 (by omega)
      go_wp2_with fail
      refine (rrow_any k hk1 (by omega) _).mono ?_
      rintro e w2 ⟨rfl, rfl⟩
      have HW := Lib.hid (rowW_below k w1)
      have HO := Lib.hid (rowW_o k w1)
      have HS := Lib.hid (rowW_s k w1)
      have hsz := rowW_size k w1
      generalize rowW k w1 = W2 at HW HO HS hsz ⊢
      generalize hq : (rowS k).length = q at hlen ⊢
      go_wp2_with fail
      go_loopw [8] (fun iv wr => ∃ i : Nat, iv = .int .i64 (i : Nat) ∧ i ≤ q ∧ (∀ j o, j < i → (rowO k)[j]? = some o → o ≠ op) ∧ wr = W2) (fun iv _ => q - (intOf iv).toNat)
      case atStart => exact ⟨0, rfl, Nat.zero_le _, fun j o h _ => by omega, rfl⟩
      case round =>
        obtain ⟨i, rfl, hi, hn, rfl⟩ := hrel
        have HN := Lib.hid hn
        clear hn
        by_cases hlt : i < q
        · obtain ⟨o, ho⟩ : ∃ o, (rowO k)[i]? = some o := ⟨_, List.getElem?_eq_getElem (by omega)⟩
          obtain ⟨x, hx⟩ : ∃ x, (rowS k)[i]? = some x := ⟨_, List.getElem?_eq_getElem (by omega)⟩
          have c0 := HO.out i o ho
          have c1 := HS.out i x hx
          have i0 : (0 : Int) ≤ (i : Int) := by omega
          have i1 : (i : Int) < (q : Int) := by omega
          have d1 : decide ((i : Int) < (q : Int)) = true := by simp; omega
          have HOO := Lib.hid ho
          have HXX := Lib.hid hx
          clear ho hx
          by_cases he : o = op
          · have d2 : ((o : Int) == (op : Int)) = true := by simp [he]
            have hLk := (sign_at k hk1 (by omega) i op x (he ▸ HOO.out) HXX.out).trans HL.out
            have HLk := Lib.hid hLk
            clear he hLk
            go_wp2_with fail
            go_ret
            exact ⟨by rw [← HLk.out]; rfl, HB.out.trans (HW.out.mono HB.out.size)⟩
          · have d2 : ((o : Int) == (op : Int)) = false := by simp; omega
            go_wp2_with fail
            go_roundw
            case rel => exact ⟨i + 1, by go_num, by omega, fun j o' h1 h2 => by
              by_cases hj : j = i
              · subst hj; rw [HOO.out] at h2; injection h2 with h2; omega
              · exact HN.out j o' (by omega) h2, by first | rfl | trivial⟩
            case measure => simp [intOf]; omega
        · obtain rfl : i = q := by omega
          have d1 : decide ((i : Int) < (i : Int)) = false := by simp
          have hk' : op ∉ rowO k := fun hm => by
            obtain ⟨j, hj⟩ := List.mem_iff_getElem?.1 hm
            have hjl := (List.getElem?_eq_some_iff.1 hj).1
            exact HN.out j op (by omega) hj rfl
          have HK := Lib.hid hk'
          clear hk'
          go_wp2_with fail
          go_roundw
          case rel => exact ⟨k + 1, by go_num, by omega, by omega, fun j h1 h2 => by
            by_cases hj : j = k
            · subst hj; exact HK.out
            · exact HNO.out j h1 (by omega), HB.out.trans (HW.out.mono HB.out.size)⟩
          case measure => simp [intOf]; omega
    · obtain rfl : k = 4 := by omega
      exact absurd HIN.out.2.2 (HNO.out kk HIN.out.1 HIN.out.2.1)
/-- The document's Print, of a part. -/
def RfFn (w0 : World) (t : List D → List UInt8) (y : List D) : Prop := ∀ vs, AllAt w0 vs y → ∀ W, Below w0.heap.size w0 W → (t y).length ≤ 100000000 → Calls Tryz.prog 15 #[.int .i64 0, .agg ⟨vs⟩] W fun e W' => e = .returned (.string ⟨(t y).toArray⟩) ∧ Below W.heap.size W W'
theorem add_l (a b : List UInt8) (h : a.length + b.length ≤ 9223372036854775807) (w : World) : (Op.stringOp .add ⟨a.toArray⟩ ⟨b.toArray⟩).run Tryz.prog w = .ok (.string ⟨(a ++ b).toArray⟩) w := by
  rw [run_string_add_sum w _ _ (by show a.toArray.size + b.toArray.size ≤ _; rw [List.size_toArray, List.size_toArray]; exact h)]
  exact congrArg (fun b => Result.ok (Value.string b) w) (by apply ByteArray.ext; simp)
theorem sgn_lv (op : Int) : (sgnP op).lv ≤ 4 := by
  unfold sgnP tabS
  split
  · decide
  · split
    · decide
    · split
      · split
        · exact (by decide : (1 : Nat) ≤ 4)
        · split
          · exact (by decide : (2 : Nat) ≤ 4)
          · exact (by decide : (3 : Nat) ≤ 4)
      · decide
set_option maxRecDepth 100000 in
set_option maxHeartbeats 2000000 in
theorem rat_any {w0 : World} {t : List D → List UInt8} {y : List D} (hf : RfFn w0 t y) (hs : ShE y) (h1 : 1 ≤ opX y) (h24 : opX y ≤ 24) {vs : List Value} (hv : AllAt w0 vs y) (asked : Nat) (W : World) (hW : Below w0.heap.size w0 W) (hl : (optP asked t y).length ≤ 100000000) :
    Calls Tryz.prog 32 #[.int .i64 0, .agg ⟨vs⟩, .int .i64 (asked : Nat)] W fun e W' => e = .returned (.string ⟨(optP asked t y).toArray⟩) ∧ Below W.heap.size W W' := by
  obtain ⟨op, n, nm, fd, kl, kla, klc, hy, rfl, _⟩ := hv.openE hs
  have hop : opX y = op := by rw [hy]; rfl
  rw [hop] at h1 h24
  obtain ⟨o, rfl⟩ := Int.eq_ofNat_of_zero_le (show (0 : Int) ≤ op by omega)
  have HLv := Lib.hid (fun (U : World) => rlevelOf_any o (by omega) U)
  have hls := lev_sgn o (by omega) (by omega)
  rw [hls] at HLv
  unfold optP at hl ⊢
  rw [hop] at hl ⊢
  have hl4 := sgn_lv (o : Int)
  generalize (sgnP (o : Int)).lv = lv at HLv hl hl4 ⊢
  have R0 := Lib.hid ((Below.refl W.heap.size W).alloc (Nat.le_refl _) (.cells #[.int .i64 (o : Nat), .int .i64 n, .string nm, .string fd, .slice kla kl.length klc] 25))
  have K0 := Lib.hid (heap_new W (.cells #[.int .i64 (o : Nat), .int .i64 n, .string nm, .string fd, .slice kla kl.length klc] 25))
  have HF := Lib.hid (fun (U : World) (b : Below w0.heap.size w0 U) (h : (t y).length ≤ 100000000) => hf _ hv U b h)
  have HW := Lib.hid hW
  clear hf hs hv hy hop h1 h24 hls hW
  by_cases hle : asked ≤ lv
  · have d1 : decide ((lv : Int) < (asked : Int)) = false := by simp; omega
    have d2 : decide (lv < asked) = false := by simp; omega
    rw [if_pos hle] at hl ⊢
    have HL := Lib.hid hl
    clear hle hl
    generalize t y = ty at HF HL ⊢
    go_enter Tryz.func32, Tryz.ntmps32
    go_wp2_with fail
    generalize W.alloc _ = W0 at R0 K0 ⊢
    refine (HLv.out _).mono ?_
    rintro e w1 ⟨rfl, b1⟩
    have R1 := Lib.hid (R0.out.trans (b1.mono R0.out.size))
    have K1 := Lib.hid ((b1.block _ (heap_lt K0.out)).trans K0.out)
    have k1 := box_cells K1.out
    clear b1 R0 K0
    go_wp2_with fail
    refine (HF.out _ (HW.out.trans (R1.out.mono HW.out.size)) HL.out).mono ?_
    rintro e w2 ⟨rfl, b2⟩
    have R2' := Lib.hid (R1.out.trans (b2.mono R1.out.size))
    clear b2
    go_wp2_with fail
    go_ret
    exact ⟨rfl, R2'.out⟩
  · have d1 : decide ((lv : Int) < (asked : Int)) = true := by simp; omega
    have d2 : decide (lv < asked) = true := by simp; omega
    rw [if_neg hle] at hl ⊢
    have hl2 : (t y).length ≤ 99999998 := by simp at hl; omega
    have HL := Lib.hid (show (t y).length ≤ 100000000 by omega)
    clear hle hl
    generalize t y = ty at HF HL hl2 ⊢
    have a1 : ∀ w, (Op.stringOp .add ⟨#[40]⟩ ⟨ty.toArray⟩).run Tryz.prog w = .ok (.string ⟨(40 :: ty).toArray⟩) w := fun w => add_l [40] ty (by simp; omega) w
    have a2 : ∀ w, (Op.stringOp .add ⟨(40 :: ty).toArray⟩ ⟨#[41]⟩).run Tryz.prog w = .ok (.string ⟨(40 :: (ty ++ [41])).toArray⟩) w := fun w => add_l (40 :: ty) [41] (by simp; omega) w
    go_enter Tryz.func32, Tryz.ntmps32
    go_wp2_with fail
    generalize W.alloc _ = W0 at R0 K0 ⊢
    refine (HLv.out _).mono ?_
    rintro e w1 ⟨rfl, b1⟩
    have R1 := Lib.hid (R0.out.trans (b1.mono R0.out.size))
    have K1 := Lib.hid ((b1.block _ (heap_lt K0.out)).trans K0.out)
    have k1 := box_cells K1.out
    clear b1 R0 K0
    go_wp2_with fail
    refine (HF.out _ (HW.out.trans (R1.out.mono HW.out.size)) HL.out).mono ?_
    rintro e w2 ⟨rfl, b2⟩
    have R2' := Lib.hid (R1.out.trans (b2.mono R1.out.size))
    clear b2
    generalize hX : (ByteArray.mk ty.toArray) = X at a1 ⊢
    generalize hY : (ByteArray.mk (40 :: ty).toArray) = Y at a1 a2
    generalize hZ : (ByteArray.mk (40 :: (ty ++ [41])).toArray) = Z at a2
    have HZ := Lib.hid hZ
    clear hX hY hZ
    go_wp2_with fail
    go_ret
    exact ⟨by rw [HZ.out]; rfl, R2'.out⟩
end Go.Proofs.YtpcldpnaljheoaaGreatDoor
