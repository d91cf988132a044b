/-
  awake, walked: the document's example.
-/
import Derived.Test.YtjdmaindoohmkaaGreatDoorTks
namespace Go.Proofs.YtjdmaindoohmkaaGreatDoor
open Go.RowKit Go.Sort

def exS : ByteArray := ⟨#[102, 36, 103, 40, 39, 92, 120, 48, 97, 39, 41, 47, 42, 99, 42, 47, 59]⟩
def exT : List Tk := [⟨1, [102, 36, 103], 0, false, 0, 0, 0⟩, ⟨5, [40], 0, true, 3, 0, 3⟩, ⟨4, [], 10, true, 4, 0, 4⟩, ⟨5, [41], 0, true, 10, 0, 10⟩, ⟨6, [99], 0, true, 11, 0, 11⟩, ⟨5, [59], 0, true, 16, 0, 16⟩, ⟨0, [], 0, true, 17, 0, 17⟩]
theorem lex_ex : lexAll exS = ⟨0, 0, exT⟩ := by kernel_rfl
set_option maxHeartbeats 1000000 in
theorem awake_any (w : World) (hv : VarOk w) : Calls Tryz.prog 4 #[] w fun e w' => e = .returned (.bool true) ∧ Below w.heap.size w w' := by
  have HL := Lib.hid fun w1 hw => lex_any exS w1 hw
  have HV := Lib.hid hv
  clear hv
  go_enter Tryz.func4, Tryz.ntmps4
  go_wp2_with fail
  refine (HL.out _ HV.out).mono ?_
  unfold LexPost diagV
  rw [lex_ex]
  rintro e w1 ⟨v, rfl, o1, b1⟩
  have B1 := Lib.hid b1
  rcases o1.slice with ⟨_, h⟩ | ⟨g, cap, hv, hg, hgl, hn, hm, hc⟩
  · cases h
  · have hv : v = .slice (some ⟨g, 0, none⟩) 7 cap := hv
    subst hv
    have hcap : 7 ≤ cap := hn
    have e1 : w1.cell? ⟨g, 1, none⟩ = some (.string ⟨#[102, 36, 103]⟩) := hc 0 _ rfl 1 _ rfl
    have e16 : w1.cell? ⟨g, 16, none⟩ = some (.int .i64 10) := hc 2 _ rfl 2 _ rfl
    have e29 : w1.cell? ⟨g, 29, none⟩ = some (.string ⟨#[99]⟩) := hc 4 _ rfl 1 _ rfl
    have e36 : w1.cell? ⟨g, 36, none⟩ = some (.string ⟨#[59]⟩) := hc 5 _ rfl 1 _ rfl
    have l0 : lineOf exS 0 = 0 := line_zero _
    have k0 : colOf exS 0 = 0 := col_zero _
    clear hc o1 b1 hn hg HL
    go_wp2_with fail
    go_ret
    exact ⟨rfl, B1.out.alloc B1.out.size _⟩
end Go.Proofs.YtjdmaindoohmkaaGreatDoor
