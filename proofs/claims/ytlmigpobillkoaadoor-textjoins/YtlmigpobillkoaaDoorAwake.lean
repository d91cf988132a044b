/-
  The document's examples ('awake') hold, in every world that holds strconv's table.
-/
import Derived.Test.YtlmigpobillkoaaDoorCur
import Derived.Test.YtlmigpobillkoaaDoorDig
import Derived.Lib.SmallJoins
namespace Go.Proofs.YtlmigpobillkoaaDoor
open Go.RowKit

theorem sevenAD : AD ⟨#[48, 48, 55]⟩ := ⟨by decide, by
  intro j hj
  have : ∀ j : Fin 3, Dig ⟨#[48, 48, 55]⟩ j.1 := by unfold Dig; decide
  exact this ⟨j, hj⟩⟩
theorem seven : valTo ⟨#[48, 48, 55]⟩ (ByteArray.mk #[48, 48, 55]).size = 7 := by decide
theorem five : Lib.itoa (-5) = [45, 53] := by unfold Lib.itoa; rw [if_pos (by decide), Lib.decDigits_one (by decide)]; decide
theorem gPow : Tryd.prog.globalNamed "internal/strconv.uint64pow10" = some 0 := by kernel_rfl
def ab : List ByteArray := [⟨#[97]⟩, ⟨#[98]⟩]
theorem abJoin : Lib.join (ab.map (·.data.toList)) [] = [97, 98] := by decide


theorem cell_new (w : World) (c : Array Value) (t : TypeId) (o : Nat) : (w.alloc (.cells c t)).cell? ⟨w.heap.size, o, none⟩ = c[o]? := by
  unfold World.cell?
  rw [heap_new]
  rfl
theorem join_ab (w : World) :
    Calls Tryd.prog 26 #[.slice (some ⟨w.heap.size, 0, none⟩) 2 2] (w.alloc (.cells #[.string ⟨#[97]⟩, .string ⟨#[98]⟩] 9)) fun e w' => e = .returned (.string ⟨#[97, 98]⟩) ∧ Below (w.heap.size + 1) (w.alloc (.cells #[.string ⟨#[97]⟩, .string ⟨#[98]⟩] 9)) w' := by
  have h := join_any w.heap.size 0 2 ab (w.alloc (.cells #[.string ⟨#[97]⟩, .string ⟨#[98]⟩] 9)) (by
    intro j x hx
    unfold ab at hx
    match j, hx with
    | 0, hx => simp at hx; subst hx; rw [cell_new]; rfl
    | 1, hx => simp at hx; subst hx; rw [cell_new]; rfl) (by simp) (by decide) (by decide) (by decide)
  rw [abJoin] at h
  have e : (w.alloc (.cells #[.string ⟨#[97]⟩, .string ⟨#[98]⟩] 9)).heap.size = w.heap.size + 1 := by simp
  rw [e] at h
  exact h

set_option maxHeartbeats 400000 in
theorem awake_any (w : World) (htab : Lib.TabIs Tryd.prog w "internal/strconv.uint64pow10" .u64 Lib.pow10Tab) :
    Calls Tryd.prog 11 #[] w fun e w' => e = .returned (.bool true) ∧ Below w.heap.size w w' := by
  have T := Lib.hid htab
  clear htab
  go_enter Tryd.func11, Tryd.ntmps11
  go_wp2_with fail
  refine (new_any ⟨#[97, 10, 98]⟩ _).mono ?_
  rintro e w' ⟨rfl, rfl⟩
  have C0 := Lib.hid (CurAt.new w ⟨#[97, 10, 98]⟩)
  have B0 := Lib.hid ((Below.refl w.heap.size w).alloc (Nat.le_refl _) (.cells #[.string ⟨#[97, 10, 98]⟩, .int .i64 0, .int .i64 0, .int .i64 0] 58))
  go_wp2_with fail
  refine (next_in w.heap.size 0 ⟨#[97, 10, 98]⟩ _ C0.out (by decide) (by decide)).mono ?_
  rintro e w1 ⟨rfl, c1, o1⟩
  have C1 := Lib.hid c1
  have B1 := Lib.hid (B0.out.trans (o1.below (Nat.le_refl _) (by simp)))
  clear c1 o1 C0 B0
  go_wp2_with fail
  refine (next_in w.heap.size 1 ⟨#[97, 10, 98]⟩ _ C1.out (by decide) (by decide)).mono ?_
  rintro e w2 ⟨rfl, c2, o2⟩
  have C2 := Lib.hid c2
  have B2 := Lib.hid (B1.out.trans (o2.below (Nat.le_refl _) B1.out.size))
  clear c2 o2 C1 B1
  go_wp2_with fail
  refine (number_ok ⟨#[48, 48, 55]⟩ _ (by decide) sevenAD (by rw [seven]; decide)).mono ?_
  rw [seven]
  rintro e w3 ⟨rfl, rfl⟩
  go_wp2_with fail
  refine (pos_any w.heap.size 2 ⟨#[97, 10, 98]⟩ _ C2.out).mono ?_
  rintro e w3 ⟨rfl, b3⟩
  have B3 := Lib.hid (B2.out.trans (b3.mono B2.out.size))
  clear b3 B2 C2
  go_wp2_with fail
  refine (digits_any (-5) _ (by decide) (by decide) (Joins.tab_stays gPow T.out B3.out (Nat.le_refl _))).mono ?_
  rw [five]
  rintro e w4 ⟨rfl, b4⟩
  have B4 := Lib.hid (B3.out.trans (b4.mono B3.out.size))
  clear b4 B3
  go_wp2_with fail
  refine (join_ab w4).mono ?_
  rintro e w5 ⟨rfl, b5⟩
  have B5 := Lib.hid ((B4.out.alloc B4.out.size _).trans (b5.mono (Nat.le_succ_of_le B4.out.size)))
  clear b5 B4
  go_wp2_with fail
  go_ret
  exact ⟨rfl, B5.out⟩
end Go.Proofs.YtlmigpobillkoaaDoor
