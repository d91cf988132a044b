/-
  The document's reader of expressions, walked: the limits.
-/
import Derived.Test.YtpcldpnaljheoaaGreatDoorRpl
import Derived.Test.YtpcldpnaljheoaaGreatDoorRca
namespace Go.Proofs.YtpcldpnaljheoaaGreatDoor
open Go.RowKit Go.Deep Go.Sort

theorem field_place (k n p l c : Int) (tx : ByteArray) (sm : Bool) (w : World) : (Instr.field 50 (.agg #[.int .i64 k, .string tx, .int .i64 n, .bool sm, .int .i64 p, .int .i64 l, .int .i64 c]) 4).run Tryz.prog w = .ok (.agg #[.int .i64 p, .int .i64 l, .int .i64 c]) w := by kernel_rfl
/-- The argument's box and the result's. -/
structure BdI (g : Nat) (ts : List Tok) (o : Obj) (w W : World) : Prop where
  bel : Below w.heap.size w W
  tk : TkW g ts W
  kb : W.heap[w.heap.size]? = some o
  k0 : W.heap[w.heap.size + 1]? = some (.cells #[.int .i64 0, .int .i64 0, .string ⟨#[]⟩, .string ⟨#[]⟩, .slice none 0 0, .int .i64 0, .int .i64 0, .int .i64 0, .int .i64 0, .int .i64 0] 56)
theorem BdI.next {g : Nat} {ts : List Tok} {o : Obj} {w W W' : World} (h : BdI g ts o w W) (b : Below W.heap.size W W') : BdI g ts o w W' :=
  ⟨h.bel.trans (b.mono h.bel.size), h.tk.below b, (b.block _ (heap_lt h.kb)).trans h.kb, (b.block _ (heap_lt h.k0)).trans h.k0⟩
theorem BdI.start {g : Nat} {ts : List Tok} {w : World} (h : TkW g ts w) (o : Obj) : BdI g ts o w ((w.alloc o).alloc got0) := by
  have Z1 := (Below.refl w.heap.size w).alloc (Nat.le_refl _) o
  have Z2 := Z1.alloc Z1.size got0
  have e1 : (w.alloc o).heap.size = w.heap.size + 1 := by simp
  have N2 := (Below.refl _ (w.alloc o)).alloc (Nat.le_refl _) got0
  have k2 := heap_new (w.alloc o) got0
  rw [e1] at k2 N2
  exact ⟨Z2, h.below Z2, (N2.block _ (by omega)).trans (heap_new w o), k2⟩
set_option maxRecDepth 100000 in
set_option maxHeartbeats 2000000 in
theorem rbound_f {g cap : Nat} {ts : List Tok} (k : Nat) {w : World} (d : Dg) (hd : d.c ≠ 0) :
    Calls Tryz.prog 47 #[tkV g cap ts, .int .i64 (k : Nat), gotN d] w fun e w' => e = .returned (gotN d) ∧ Below w.heap.size w w' := by
  have Z1 := (Below.refl w.heap.size w).alloc (Nat.le_refl _) (gotO 0 0 ⟨#[]⟩ ⟨#[]⟩ none 0 0 0 d)
  have Z2 := Lib.hid (Z1.alloc Z1.size (gotO 0 0 ⟨#[]⟩ ⟨#[]⟩ none 0 0 0 d))
  have k2 := heap_new (w.alloc (gotO 0 0 ⟨#[]⟩ ⟨#[]⟩ none 0 0 0 d)) (gotO 0 0 ⟨#[]⟩ ⟨#[]⟩ none 0 0 0 d)
  rw [show (w.alloc (gotO 0 0 ⟨#[]⟩ ⟨#[]⟩ none 0 0 0 d)).heap.size = w.heap.size + 1 by simp] at k2
  have K2 := Lib.hid k2
  have hb : ((d.c : Int) != 0) = true := by simp [hd]
  clear hd Z1 k2
  unfold gotN gotV
  go_enter Tryz.func47, Tryz.ntmps47
  go_wp2_with fail
  exact bodyPost_ret (v := gotN d) (results_cell (i := 6) (b := w.heap.size + 1) Tryz.results47 Tryz.isAgg56 Tryz.sizeOf56 rfl rfl K2.out) rfl ⟨rfl, Z2.out⟩
end Go.Proofs.YtpcldpnaljheoaaGreatDoor
