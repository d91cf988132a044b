/-
  awake, walked: the document's example.
-/
import Derived.Test.YtjdmaindoohmkaaDoorPTks
namespace Go.Proofs.YtjdmaindoohmkaaDoor.P
open Go.RowKit Go.Sort

def exS : ByteArray := ⟨#[88, 58, 61, 39, 97, 39, 123, 99, 125]⟩
def exT : List Tk := [⟨1, [120], 0, false, 0, 0, 0⟩, ⟨5, [58, 61], 0, true, 1, 0, 1⟩, ⟨4, [], 97, true, 3, 0, 3⟩, ⟨6, [99], 0, true, 6, 0, 6⟩, ⟨0, [], 0, true, 9, 0, 9⟩]
theorem lex_ex : lexAll exS = ⟨0, 0, exT⟩ := by kernel_rfl
set_option maxHeartbeats 1000000 in
theorem awake_any (w : World) : Calls Tryd.prog 12 #[] w fun e w' => e = .returned (.bool true) ∧ Below w.heap.size w w' := by
  have HL := Lib.hid fun w1 => lex_any exS w1
  go_enter Tryd.func12, Tryd.ntmps12
  go_wp2_with fail
  refine (HL.out _).mono ?_
  unfold LexPost diagV
  rw [lex_ex]
  rintro e w1 ⟨v, rfl, o1, b1⟩
  have B1 := Lib.hid b1
  rcases o1.slice with ⟨_, h⟩ | ⟨g, cap, hv, hg, hgl, hn, hm, hc⟩
  · cases h
  · have hv : v = .slice (some ⟨g, 0, none⟩) 5 cap := hv
    subst hv
    have hcap : 5 ≤ cap := hn
    have e1 : w1.cell? ⟨g, 1, none⟩ = some (.string ⟨#[120]⟩) := hc 0 _ rfl 1 _ rfl
    have e3 : w1.cell? ⟨g, 3, none⟩ = some (.bool false) := hc 0 _ rfl 3 _ rfl
    have e8 : w1.cell? ⟨g, 8, none⟩ = some (.string ⟨#[58, 61]⟩) := hc 1 _ rfl 1 _ rfl
    have e16 : w1.cell? ⟨g, 16, none⟩ = some (.int .i64 97) := hc 2 _ rfl 2 _ rfl
    have e18 : w1.cell? ⟨g, 18, none⟩ = some (.int .i64 3) := hc 2 _ rfl 4 _ rfl
    have e22 : w1.cell? ⟨g, 22, none⟩ = some (.string ⟨#[99]⟩) := hc 3 _ rfl 1 _ rfl
    have e31 : w1.cell? ⟨g, 31, none⟩ = some (.bool true) := hc 4 _ rfl 3 _ rfl
    have l0 : lineOf exS 0 = 0 := line_zero _
    have k0 : colOf exS 0 = 0 := col_zero _
    clear hc o1 b1 hn hg HL
    go_wp2_with fail
    go_ret
    exact ⟨rfl, B1.out.alloc B1.out.size _⟩
end Go.Proofs.YtjdmaindoohmkaaDoor.P
