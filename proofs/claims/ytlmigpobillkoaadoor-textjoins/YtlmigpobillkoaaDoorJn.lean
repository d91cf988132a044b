/-
  Texts that are joined, plainly and walked; Pick.
-/
import Derived.Test.YtlmigpobillkoaaDoorPtWalk
namespace Go.Proofs.YtlmigpobillkoaaDoor
open Go.RowKit

set_option maxHeartbeats 400000 in
theorem pick_any (x n : Int) (w : World) (h0 : -9223372036854775808 ≤ x) (h1 : x ≤ 9223372036854775807) (hn : 1 ≤ n) (hn2 : n ≤ 1000000) :
    Calls Tryd.prog 13 #[.int .i64 x, .int .i64 n] w fun e w' => e = .returned (.int .i64 (x % n)) ∧ w = w' := by
  have hne : (n == 0) = false := by simp; omega
  by_cases hx : 0 ≤ x
  · have e : x.tmod n = x % n := Int.tmod_eq_emod_of_nonneg hx
    have b1 := Int.emod_nonneg x (show n ≠ 0 by omega)
    have b2 := Int.emod_lt_of_pos x (show 0 < n by omega)
    go_enter Tryd.func13, Tryd.ntmps13
    go_wp2_with fail
    go_ret
    exact ⟨rfl, rfl⟩
  · obtain ⟨y, rfl⟩ : ∃ y, x = -y := ⟨-x, by omega⟩
    have hy : 0 ≤ y := by omega
    have e : (-y).tmod n = -(y % n) := by rw [Int.neg_tmod, Int.tmod_eq_emod_of_nonneg hy]
    have b1 := Int.emod_nonneg y (show n ≠ 0 by omega)
    have b2 := Int.emod_lt_of_pos y (show 0 < n by omega)
    have hd := Int.emod_add_mul_ediv y n
    generalize hq : y % n = q at *
    have HQ := Lib.hid hq
    have HD := Lib.hid hd
    clear hq hd
    by_cases h0q : q = 0
    · subst h0q
      have er : (-y) % n = 0 := by
        have := HD.out
        rw [show -y = 0 + n * (-(y / n)) by rw [Int.mul_neg]; omega, Int.add_mul_emod_self_left]
        simp
      rw [er]
      have e' : (-y).tmod n = 0 := by rw [e]; rfl
      clear e er HQ HD
      go_enter Tryd.func13, Tryd.ntmps13
      go_wp2_with fail
      go_ret
      exact ⟨rfl, rfl⟩
    · have er : (-y) % n = n - q := by
        have := HD.out
        rw [show -y = (n - q) + n * (-(y / n) - 1) by rw [Int.mul_sub, Int.mul_neg]; omega, Int.add_mul_emod_self_left]
        exact Int.emod_eq_of_lt (by omega) (by omega)
      rw [er]
      have hneg : -q < 0 := by omega
      clear er HQ HD
      go_enter Tryd.func13, Tryd.ntmps13
      go_wp2_with fail
      go_ret
      exact ⟨by rw [show -q + n = n - q by omega]; rfl, rfl⟩

/-- All of them, one behind the other. -/
def cat (xs : List ByteArray) : ByteArray := ⟨((xs.map (·.data.toList)).flatten).toArray⟩
theorem join_flat (l : List (List UInt8)) : Lib.join l [] = l.flatten := by
  cases l with
  | nil => rfl
  | cons x r =>
    rw [Lib.join_cons]
    simp [Lib.joinTail]
theorem cat_nil : cat [] = ⟨#[]⟩ := rfl
theorem cat_app (xs ys : List ByteArray) : cat (xs ++ ys) = cat xs ++ cat ys := by
  unfold cat
  rw [ByteArray.mk_append_mk]
  simp
theorem cat_one (x : ByteArray) : cat [x] = x := by
  unfold cat
  apply ByteArray.ext
  simp
theorem cat_take (xs : List ByteArray) (k : Nat) (x : ByteArray) (h : xs[k]? = some x) : cat (xs.take (k + 1)) = cat (xs.take k) ++ x := by
  rw [List.take_add_one, h, cat_app]
  simp [cat_one]
theorem cat_parts (xs : List ByteArray) (k : Nat) : cat (xs.take k) ++ cat (xs.drop k) = cat xs := by
  rw [← cat_app, List.take_append_drop]
theorem joinAt (W : World) (a : Option Addr) (n c : Nat) (xs : List ByteArray) (hS : IsStrs W a n c xs) (hc : (cat xs).size ≤ 1000000) (hn : n ≤ 1000000) (w1 : World) (hb : Below W.heap.size W w1) :
    Calls Tryd.prog 26 #[.slice a n c] w1 fun e w' => e = .returned (.string (cat xs)) ∧ Below W.heap.size W w' := by
  obtain ⟨hl, hlc, hcm, hsz, hcells⟩ := hS
  have hcat : (Lib.join (xs.map (·.data.toList)) []).length = (cat xs).size := by
    rw [join_flat]
    show _ = ((xs.map (·.data.toList)).flatten).toArray.size
    simp
  by_cases h0 : n = 0
  · subst h0
    have : xs = [] := List.length_eq_zero_iff.1 hl
    subst this
    exact (join_none a c w1).mono fun _ _ ⟨he, hw⟩ => ⟨he, by rw [← hw]; exact hb⟩
  · rcases hcells with h | ⟨bk, o, rfl, hbk, hce⟩
    · exact absurd h h0
    · have := join_any bk o c xs w1 (fun j x hx => by rw [hb.cell hbk]; exact hce j x hx) (Nat.lt_of_lt_of_le hbk hb.size) (by omega) (by omega) (by rw [hcat]; omega)
      rw [hl, join_flat] at this
      exact this.mono fun _ _ ⟨he, hb2⟩ => ⟨he, hb.trans (hb2.mono hb.size)⟩
theorem joinTwo (W w1 : World) (x y : ByteArray) (hc : (x ++ y).size ≤ 1000000) (hb : Below W.heap.size W (w1.alloc (.cells #[.string x, .string y] 9))) :
    Calls Tryd.prog 26 #[.slice (some ⟨w1.heap.size, 0, none⟩) 2 2] (w1.alloc (.cells #[.string x, .string y] 9)) fun e w' => e = .returned (.string (x ++ y)) ∧ Below W.heap.size W w' := by
  have e2 : cat [x, y] = x ++ y := by rw [show [x, y] = [x] ++ [y] from rfl, cat_app, cat_one, cat_one]
  have hcat : (Lib.join ([x, y].map (·.data.toList)) []).length = (cat [x, y]).size := by
    rw [join_flat]
    show _ = (([x, y].map (·.data.toList)).flatten).toArray.size
    simp
  have := join_any w1.heap.size 0 2 [x, y] (w1.alloc (.cells #[.string x, .string y] 9)) (by
    intro j z hz
    match j, hz with
    | 0, hz => simp at hz; subst hz; rw [cell_new]; rfl
    | 1, hz => simp at hz; subst hz; rw [cell_new]; rfl) (by simp) (Nat.le_refl _) (show 2 ≤ 140737488355328 by decide) (by rw [hcat, e2]; omega)
  rw [join_flat] at this
  refine Calls.mono this fun _ _ ⟨he, hb2⟩ => ⟨by rw [he, ← e2]; rfl, hb.trans (hb2.mono hb.size)⟩
theorem isStrs_take {W : World} {b o len cap : Nat} {ss : List ByteArray} (h : IsStrs W (some ⟨b, o, none⟩) len cap ss) (h0 : 0 < len) (k : Nat) (hk : k ≤ len) : IsStrs W (some ⟨b, o, none⟩) k cap (ss.take k) := by
  obtain ⟨hl, hlc, hcm, hsz, hcells⟩ := h
  refine ⟨by simp; omega, by omega, hcm, fun x hx => hsz x (List.mem_of_mem_take hx), ?_⟩
  rcases hcells with hc | ⟨b', o', e, hb, hc⟩
  · omega
  · cases e
    refine .inr ⟨b, o, rfl, hb, fun j x hx => hc j x ?_⟩
    have hj : j < k := by
      have := (List.getElem?_eq_some_iff.1 hx).1
      simp at this; omega
    rwa [List.getElem?_take_of_lt hj] at hx
theorem isStrs_drop {W : World} {b o len cap : Nat} {ss : List ByteArray} (h : IsStrs W (some ⟨b, o, none⟩) len cap ss) (h0 : 0 < len) (k : Nat) (hk : k ≤ len) : IsStrs W (some ⟨b, o + k, none⟩) (len - k) (cap - k) (ss.drop k) := by
  obtain ⟨hl, hlc, hcm, hsz, hcells⟩ := h
  refine ⟨by simp; omega, by omega, by omega, fun x hx => hsz x (List.mem_of_mem_drop hx), ?_⟩
  rcases hcells with hc | ⟨b', o', e, hb, hc⟩
  · omega
  · cases e
    refine .inr ⟨b, o + k, rfl, hb, fun j x hx => ?_⟩
    rw [List.getElem?_drop] at hx
    rw [Nat.add_assoc]
    exact hc _ x hx
end Go.Proofs.YtlmigpobillkoaaDoor
