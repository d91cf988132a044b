/-
  The printer's expr, walked: numbers, characters, calls.
-/
import Derived.Test.YtpcldpnaljheoaaGreatDoorPy8
import Derived.Test.YtpcldpnaljheoaaGreatDoorPc8
import Derived.Test.YtpcldpnaljheoaaGreatDoorShelfd
import Derived.Deep.RegionHeld3
namespace Go.Proofs.YtpcldpnaljheoaaGreatDoor
open Go.RowKit Go.Deep

/-- The table that numbers are written by. -/
def Tb (w : World) : Prop := Lib.TabIs Tryz.prog w "internal/strconv.uint64pow10" .u64 Lib.pow10Tab
theorem Tb.below {w w' : World} (h : Tb w) (hb : Below w.heap.size w w') : Tb w' := by
  obtain ⟨g, hg⟩ : ∃ g, Tryz.prog.globalNamed "internal/strconv.uint64pow10" = some g := by
    cases hg : Tryz.prog.globalNamed "internal/strconv.uint64pow10" with
    | none => unfold Tb Lib.TabIs World.var? at h; rw [hg] at h; cases h
    | some g => exact ⟨g, rfl⟩
  unfold Tb Lib.TabIs World.var? at h ⊢
  rw [hg] at h ⊢
  simp only [Option.bind_some] at h ⊢
  have hlt : g < w.heap.size := by
    rcases Nat.lt_or_ge g w.heap.size with h' | h'
    · exact h'
    · rw [Array.getElem?_eq_none h'] at h; cases h
  rw [hb.block g hlt]
  exact h
theorem encode_small (n : Int) (h0 : 0 ≤ n) (h1 : n < 128) : Utf8.encode n = ⟨#[UInt8.ofNat n.toNat]⟩ := by
  have h : ∀ k : Fin 128, Utf8.encode (k.1 : Int) = ⟨#[UInt8.ofNat k.1]⟩ := by decide
  obtain ⟨k, rfl⟩ := Int.eq_ofNat_of_zero_le h0
  have := h ⟨k, by omega⟩
  simpa using this
set_option maxHeartbeats 1000000 in
theorem digits_any (n : Int) (w : World) (h0 : -9223372036854775808 ≤ n) (h1 : n ≤ 9223372036854775807) (htab : Tb w) :
    Calls Tryz.prog 53 #[.int .i64 n] w fun e w' => e = .returned (.string ⟨(Lib.itoa n).toArray⟩) ∧ Below w.heap.size w w' := by
  have T := Lib.hid htab
  clear htab
  go_enter Tryz.func53, Tryz.ntmps53
  go_wp2_with fail
  refine (Tryz.strconv_FormatInt_10 n h0 h1 _ T.out).mono ?_
  rintro e w' ⟨rfl, k, os, rfl⟩
  go_wp2_with fail
  go_ret
  exact ⟨rfl, Lib.below_grow _ _ (Nat.le_refl _) _ _⟩
/-- How a character is written. -/
def charP (n : Int) : List UInt8 := if n = 39 then [39, 39, 39, 39] else if 32 ≤ n ∧ n ≤ 126 then [39, UInt8.ofNat n.toNat, 39] else 35 :: Lib.itoa n
theorem dd_small (u : Nat) (h : u < 1000) : (Lib.decDigits u).length ≤ 3 := by
  by_cases h1 : u < 10
  · rw [Lib.decDigits_one h1]; simp
  · rw [Lib.decDigits, dif_neg h1]
    by_cases h2 : u / 10 < 10
    · rw [Lib.decDigits_one h2]; simp
    · rw [Lib.decDigits, dif_neg h2, Lib.decDigits_one (by omega)]; simp
theorem itoa_small (n : Int) (h0 : 0 ≤ n) (h1 : n ≤ 255) : (Lib.itoa n).length ≤ 3 := by
  unfold Lib.itoa
  rw [if_neg (by omega)]
  exact dd_small _ (by omega)
set_option maxRecDepth 100000 in
set_option maxHeartbeats 2000000 in
theorem char_any (n : Int) (w : World) (h0 : 0 ≤ n) (h1 : n ≤ 255) (htab : Tb w) :
    Calls Tryz.prog 28 #[.int .i64 n] w fun e w' => e = .returned (.string ⟨(charP n).toArray⟩) ∧ Below w.heap.size w w' := by
  have HD := Lib.hid (fun (U : World) (t : Tb U) => digits_any n U (by omega) (by omega) t)
  have HT := Lib.hid htab
  have hl3 := itoa_small n h0 h1
  unfold charP
  clear htab
  by_cases h39 : n = 39
  · subst h39
    rw [if_pos rfl]
    go_enter Tryz.func28, Tryz.ntmps28
    go_wp2_with fail
    go_ret
    exact ⟨rfl, Below.refl _ _⟩
  · have d1 : (n == 39) = false := by simp; omega
    rw [if_neg h39]
    by_cases hp : 32 ≤ n ∧ n ≤ 126
    · have d2 : decide (n ≥ 32) = true := by simp; omega
      have d2' : decide (32 ≤ n) = true := by simp; omega
      have d3 : decide (n ≤ 126) = true := by simp; omega
      have hw : IntKind.i32.wrap n = n := by rw [IntKind.wrap_i32]; omega
      have he := encode_small n h0 (by omega)
      rw [if_pos hp]
      generalize UInt8.ofNat n.toNat = b at he ⊢
      clear h39 hp HD HT hl3
      go_enter Tryz.func28, Tryz.ntmps28
      go_wp2_with fail
      go_ret
      exact ⟨rfl, Below.refl _ _⟩
    · rw [if_neg hp]
      by_cases h32 : 32 ≤ n
      · have d2 : decide (n ≥ 32) = true := by simp; omega
        have d2' : decide (32 ≤ n) = true := by simp; omega
        have d3 : decide (n ≤ 126) = false := by simp; omega
        have hsz : (ByteArray.mk #[35]).size + (ByteArray.mk (Lib.itoa n).toArray).size ≤ 9223372036854775807 := by
          show 1 + (Lib.itoa n).toArray.size ≤ _
          rw [List.size_toArray]; omega
        have hadd : ∀ w : World, (Op.stringOp .add ⟨#[35]⟩ ⟨(Lib.itoa n).toArray⟩).run Tryz.prog w = .ok (.string ⟨(35 :: Lib.itoa n).toArray⟩) w := fun w => by
          rw [run_string_add_sum w _ _ hsz]
          exact congrArg (fun b => Result.ok (Value.string b) w) (ByteArray.mk_append_mk [35] _)
        clear h39 hp hl3 hsz
        go_enter Tryz.func28, Tryz.ntmps28
        go_wp2_with fail
        refine (HD.out _ HT.out).mono ?_
        rintro e w1 ⟨rfl, b1⟩
        have B1 := Lib.hid b1
        clear b1
        go_wp2_with fail
        go_ret
        exact ⟨rfl, B1.out⟩
      · have d2 : decide (n ≥ 32) = false := by simp; omega
        have d2' : decide (32 ≤ n) = false := by simp; omega
        have hsz : (ByteArray.mk #[35]).size + (ByteArray.mk (Lib.itoa n).toArray).size ≤ 9223372036854775807 := by
          show 1 + (Lib.itoa n).toArray.size ≤ _
          rw [List.size_toArray]; omega
        have hadd : ∀ w : World, (Op.stringOp .add ⟨#[35]⟩ ⟨(Lib.itoa n).toArray⟩).run Tryz.prog w = .ok (.string ⟨(35 :: Lib.itoa n).toArray⟩) w := fun w => by
          rw [run_string_add_sum w _ _ hsz]
          exact congrArg (fun b => Result.ok (Value.string b) w) (ByteArray.mk_append_mk [35] _)
        clear h39 hp hl3 hsz
        go_enter Tryz.func28, Tryz.ntmps28
        go_wp2_with fail
        refine (HD.out _ HT.out).mono ?_
        rintro e w1 ⟨rfl, b1⟩
        have B1 := Lib.hid b1
        clear b1
        go_wp2_with fail
        go_ret
        exact ⟨rfl, B1.out⟩
set_option maxRecDepth 100000 in
set_option maxHeartbeats 2000000 in
theorem pr_call {w0 : World} {q : Nat} {t : List UInt8} {n : Int} {nm fd : ByteArray} {a : Option Addr} {len c : Nat} {acc : List UInt8} {W : World} (h : PrI w0 q acc W)
    (hA : ∀ U, PrI w0 q acc U → Calls Tryz.prog 93 #[prV q, .agg #[.int .i64 7, .int .i64 n, .string nm, .string fd, .slice a len c]] U (PrPost w0 q acc t U)) :
    Calls Tryz.prog 51 #[prV q, .agg #[.int .i64 7, .int .i64 n, .string nm, .string fd, .slice a len c]] W (PrPost w0 q acc t W) := by
  have F0 := Lib.hid (PF.start h 7 n nm fd a len c)
  have HA := Lib.hid hA
  unfold prV at HA ⊢
  clear h hA
  go_enter Tryz.func51, Tryz.ntmps51
  go_wp2_with fail
  generalize (W.alloc (.cells #[.pointer (some ⟨q, 0, none⟩), .func (.func 27) #[] #[], .func (.func 28) #[] #[]] 99)).alloc (.cells #[.int .i64 7, .int .i64 n, .string nm, .string fd, .slice a len c] 25) = W0 at F0 ⊢
  have gp := box_cells F0.out.bp
  have ge := box_cells F0.out.be
  go_wp2_with fail
  refine (HA.out _ F0.out.pr).mono ?_
  rintro e w1 ⟨rfl, p1, e1⟩
  have P2 := Lib.hid p1
  have D2 := Lib.hid (F0.out.did.trans e1)
  clear p1 e1
  go_wp2_with fail
  go_end0
  exact ⟨rfl, P2.out, D2.out⟩
set_option maxRecDepth 100000 in
set_option maxHeartbeats 4000000 in
theorem pr_int {w0 : World} {q : Nat} {n : Int} (h0 : 0 ≤ n) (h1 : n ≤ 9223372036854775807) {nm fd : ByteArray} {a : Option Addr} {len c : Nat} {acc : List UInt8} {W : World} (h : PrI w0 q acc W) (hT : Tb w0) (hl : acc.length + (Lib.itoa n).length ≤ 100000000) :
    Calls Tryz.prog 51 #[prV q, .agg #[.int .i64 1, .int .i64 n, .string nm, .string fd, .slice a len c]] W (PrPost w0 q acc (Lib.itoa n) W) := by
  have F0 := Lib.hid (PF.start h 1 n nm fd a len c)
  have HD := Lib.hid (fun (U : World) (t : Tb U) => digits_any n U (by omega) h1 t)
  have HT := Lib.hid (fun (U : World) (b : Below w0.heap.size w0 U) => hT.below b)
  have hnx : (ByteArray.mk (Lib.itoa n).toArray).data.toList = Lib.itoa n := by simp
  have hns : (ByteArray.mk (Lib.itoa n).toArray).size ≤ maxLen := by
    show (Lib.itoa n).toArray.size ≤ maxLen
    rw [List.size_toArray]; unfold maxLen; omega
  generalize Lib.itoa n = t at hl HD hnx hns ⊢
  generalize (ByteArray.mk t.toArray) = x at HD hnx hns
  have HL := Lib.hid hl
  have HS := Lib.hid hns
  have HX := Lib.hid hnx
  clear h hl hns hT hnx
  unfold prV
  go_enter Tryz.func51, Tryz.ntmps51
  go_wp2_with fail
  generalize (W.alloc (.cells #[.pointer (some ⟨q, 0, none⟩), .func (.func 27) #[] #[], .func (.func 28) #[] #[]] 99)).alloc (.cells #[.int .i64 1, .int .i64 n, .string nm, .string fd, .slice a len c] 25) = W0 at F0 ⊢
  have gp := box_cells F0.out.bp
  have ge := box_cells F0.out.be
  have FD := Lib.hid (F0.out.below (below_drew0 (Below.refl W0.heap.size W0)))
  have KB : ∀ (acc' : List UInt8) (W' : World), PF w0 q W.heap.size 1 n nm fd a len c acc' W W' → W'.cell? ⟨W.heap.size, 0, none⟩ = some (.pointer (some ⟨q, 0, none⟩)) ∧ W'.cell? ⟨W.heap.size + 1, 1, none⟩ = some (.int .i64 n) := fun _ W' f => ⟨box_cells f.bp 0, box_cells f.be 1⟩
  have HK0 := Lib.hid (KB _ _ FD.out)
  have HKB := Lib.hid KB
  clear KB gp ge
  go_region_held3 (fun W' => W'.cell? ⟨W.heap.size, 0, none⟩ = some (.pointer (some ⟨q, 0, none⟩)) ∧ W'.cell? ⟨W.heap.size + 1, 1, none⟩ = some (.int .i64 n))
    (first | with_reducible exact HK0.out | with_reducible exact HK1.out | with_reducible exact HK2.out | with_reducible exact HK3.out | with_reducible assumption)
    (first
      | (go_at_call 53; refine (HD.out _ (HT.out _ FD.out.pr.lo)).mono ?_; rintro e1 w1 ⟨rfl, b1⟩; have F1 := Lib.hid (FD.out.below b1); have HK1 := Lib.hid (HKB.out _ _ F1.out); have HK2 := Lib.hid (HKB.out _ _ (F1.out.below ((Below.refl w1.heap.size w1).alloc (Nat.le_refl _) (.cells #[.string x] 9)))); clear b1)
      | (go_at_call 92; refine (put_lit F1.out.pr [x] (one_le _ HS.out) (by { show 1 ≤ 10; decide }) (by { rw [flat1, HX.out]; exact HL.out }) (z := w1.heap.size) rfl).mono ?_; rintro e2 w2 ⟨rfl, p2, e2'⟩; have F2 := Lib.hid (F1.out.next p2 e2'); have HK3 := Lib.hid (HKB.out _ _ F2.out); clear p2 e2'))
  all_goals
    go_wp2_with fail
    go_end0
    exact PrPost.of F2.out.pr (by rw [flat1, HX.out]) F2.out.did
set_option maxRecDepth 100000 in
set_option maxHeartbeats 4000000 in
theorem pr_chr {w0 : World} {q : Nat} {n : Int} (h0 : 0 ≤ n) (h1 : n ≤ 255) {nm fd : ByteArray} {a : Option Addr} {len c : Nat} {acc : List UInt8} {W : World} (h : PrI w0 q acc W) (hT : Tb w0) (hl : acc.length + (charP n).length ≤ 100000000) :
    Calls Tryz.prog 51 #[prV q, .agg #[.int .i64 3, .int .i64 n, .string nm, .string fd, .slice a len c]] W (PrPost w0 q acc (charP n) W) := by
  have F0 := Lib.hid (PF.start h 3 n nm fd a len c)
  have HD := Lib.hid (fun (U : World) (t : Tb U) => char_any n U h0 h1 t)
  have HT := Lib.hid (fun (U : World) (b : Below w0.heap.size w0 U) => hT.below b)
  have hnx : (ByteArray.mk (charP n).toArray).data.toList = charP n := by simp
  have hns : (ByteArray.mk (charP n).toArray).size ≤ maxLen := by
    show (charP n).toArray.size ≤ maxLen
    rw [List.size_toArray]; unfold maxLen; omega
  generalize charP n = t at hl HD hnx hns ⊢
  generalize (ByteArray.mk t.toArray) = x at HD hnx hns
  have HL := Lib.hid hl
  have HS := Lib.hid hns
  have HX := Lib.hid hnx
  clear h hl hns hT hnx
  unfold prV
  go_enter Tryz.func51, Tryz.ntmps51
  go_wp2_with fail
  generalize (W.alloc (.cells #[.pointer (some ⟨q, 0, none⟩), .func (.func 27) #[] #[], .func (.func 28) #[] #[]] 99)).alloc (.cells #[.int .i64 3, .int .i64 n, .string nm, .string fd, .slice a len c] 25) = W0 at F0 ⊢
  have gp := box_cells F0.out.bp
  have ge := box_cells F0.out.be
  have FD := Lib.hid (F0.out.below (below_drew0 (Below.refl W0.heap.size W0)))
  have KB : ∀ (acc' : List UInt8) (W' : World), PF w0 q W.heap.size 3 n nm fd a len c acc' W W' → W'.cell? ⟨W.heap.size, 0, none⟩ = some (.pointer (some ⟨q, 0, none⟩)) ∧ W'.cell? ⟨W.heap.size, 2, none⟩ = some (.func (.func 28) #[] #[]) ∧ W'.cell? ⟨W.heap.size + 1, 1, none⟩ = some (.int .i64 n) := fun _ W' f => ⟨box_cells f.bp 0, box_cells f.bp 2, box_cells f.be 1⟩
  have HK0 := Lib.hid (KB _ _ FD.out)
  have HKB := Lib.hid KB
  clear KB gp ge
  go_region_held3 (fun W' => W'.cell? ⟨W.heap.size, 0, none⟩ = some (.pointer (some ⟨q, 0, none⟩)) ∧ W'.cell? ⟨W.heap.size, 2, none⟩ = some (.func (.func 28) #[] #[]) ∧ W'.cell? ⟨W.heap.size + 1, 1, none⟩ = some (.int .i64 n))
    (first | with_reducible exact HK0.out | with_reducible exact HK1.out | with_reducible exact HK2.out | with_reducible exact HK3.out | with_reducible assumption)
    (first
      | (go_at_call 28; refine (HD.out _ (HT.out _ FD.out.pr.lo)).mono ?_; rintro e1 w1 ⟨rfl, b1⟩; have F1 := Lib.hid (FD.out.below b1); have HK1 := Lib.hid (HKB.out _ _ F1.out); have HK2 := Lib.hid (HKB.out _ _ (F1.out.below ((Below.refl w1.heap.size w1).alloc (Nat.le_refl _) (.cells #[.string x] 9)))); clear b1)
      | (go_at_call 92; refine (put_lit F1.out.pr [x] (one_le _ HS.out) (by { show 1 ≤ 10; decide }) (by { rw [flat1, HX.out]; exact HL.out }) (z := w1.heap.size) rfl).mono ?_; rintro e2 w2 ⟨rfl, p2, e2'⟩; have F2 := Lib.hid (F1.out.next p2 e2'); have HK3 := Lib.hid (HKB.out _ _ F2.out); clear p2 e2'))
  all_goals
    go_wp2_with fail
    go_end0
    exact PrPost.of F2.out.pr (by rw [flat1, HX.out]) F2.out.did
end Go.Proofs.YtpcldpnaljheoaaGreatDoor
