/-
  The document's reader of expressions, walked: what begins with a name: a field.
-/
import Derived.Test.YtpcldpnaljheoaaGreatDoorRfl
import Derived.Deep.RegionHeld3
namespace Go.Proofs.YtpcldpnaljheoaaGreatDoor
open Go.RowKit Go.Deep Go.Sort

theorem field_txt (k n p l c : Int) (tx : ByteArray) (sm : Bool) (w : World) : (Instr.field 50 (.agg #[.int .i64 k, .string tx, .int .i64 n, .bool sm, .int .i64 p, .int .i64 l, .int .i64 c]) 1).run Tryz.prog w = .ok (.string tx) w := by kernel_rfl
theorem s10_ne (W : World) {z k : Nat} (hk : k ≠ z) (v0 v1 v2 v3 v4 v5 v6 v7 v8 v9 : Value) : (s10 W z v0 v1 v2 v3 v4 v5 v6 v7 v8 v9).heap[k]? = W.heap[k]? := by
  unfold s10
  rw [Below.heap_setCell _ _ _ _ hk, Below.heap_setCell _ _ _ _ hk, Below.heap_setCell _ _ _ _ hk, Below.heap_setCell _ _ _ _ hk, Below.heap_setCell _ _ _ _ hk, Below.heap_setCell _ _ _ _ hk, Below.heap_setCell _ _ _ _ hk, Below.heap_setCell _ _ _ _ hk, Below.heap_setCell _ _ _ _ hk, Below.heap_setCell _ _ _ _ hk]
theorem FxI.drew {g : Nat} {ts : List Tok} {z : Nat} {t : Tok} {w W : World} (h : FxI g ts z t w W) : FxI g ts z t w W.drew :=
  ⟨below_drew0 h.bel, ⟨⟨h.tk.toks.lt, h.tk.toks.cells⟩, h.tk.ok⟩, h.k0, h.kt, h.gt⟩
set_option maxRecDepth 100000 in
set_option maxHeartbeats 4000000 in
theorem rnm_field {g cap : Nat} {ts : List Tok} {s : RS} {w : World} (hf : s.f = 0) (h : TkW g ts w) (hk : (cur ts s).kind = 1) (h40 : isT ts (stepS s) [⟨#[40]⟩] = false) (h91 : isT ts (stepS s) [⟨#[91]⟩] = false) (h46 : isT ts (stepS s) [⟨#[46]⟩] = true) (hk2 : (cur ts (stepS (stepS s))).kind = 1) :
    Calls Tryz.prog 137 (facA g cap ts s.k) w (GPost w.heap.size (mkE 6 0 (cur ts s).text (cur ts (stepS (stepS s))).text [], stepS (stepS (stepS s))) w) := by
  have hlen := h.ok.len
  have Z := (Below.refl w.heap.size w).alloc (Nat.le_refl _) got0
  have T0 := Lib.hid (h.below Z)
  have HT := Lib.hid (rtok_any (cap := cap) s.k (h.below Z))
  have K0 := Lib.hid (heap_new w got0)
  have ZB := Lib.hid Z
  have hsl := (cur_k (ts := ts) (s := s) (by omega)).2.1
  have htx := h.ok.txt _ (List.mem_of_getElem? (cur_k (ts := ts) (s := s) (by omega)).2.2)
  have htu := h.ok.txt _ (List.mem_of_getElem? (cur_k (ts := ts) (s := stepS (stepS s)) (by omega)).2.2)
  have hsl3 := (cur_k (ts := ts) (s := stepS (stepS s)) (by omega)).2.1
  have e40 : isW (tkAt ts (stepS s).k) [⟨#[40]⟩] = false := by unfold isT at h40; rw [cur_tk (s := stepS s) hf] at h40; exact h40
  have e91 : isW (tkAt ts (stepS s).k) [⟨#[91]⟩] = false := by unfold isT at h91; rw [cur_tk (s := stepS s) hf] at h91; exact h91
  have e46 : isW (tkAt ts (stepS s).k) [⟨#[46]⟩] = true := by unfold isT at h46; rw [cur_tk (s := stepS s) hf] at h46; exact h46
  have H40 := Lib.hid (fun (W : World) (hW : TkW g ts W) => ris_any (cap := cap) (stepS s).k ⟨#[40]⟩ hW)
  have H91 := Lib.hid (fun (W : World) (hW : TkW g ts W) => ris_any (cap := cap) (stepS s).k ⟨#[91]⟩ hW)
  have H46 := Lib.hid (fun (W : World) (hW : TkW g ts W) => ris_any (cap := cap) (stepS s).k ⟨#[46]⟩ hW)
  rw [e40] at H40
  rw [e91] at H91
  rw [e46] at H46
  have hkk1 : (stepS s).k = s.k + 1 := rfl
  have hkk2 : (stepS (stepS s)).k = s.k + 2 := rfl
  have hkk3 : (stepS (stepS (stepS s))).k = s.k + 3 := rfl
  have hw1 : IntKind.i64.wrap ((s.k : Int) + 1) = (((stepS s).k : Nat) : Int) := by rw [IntWalk.i64_in _ (by omega)]; exact (Int.natCast_add s.k 1).symm
  have hw2 : IntKind.i64.wrap ((s.k : Int) + 2) = (((stepS (stepS s)).k : Nat) : Int) := by rw [IntWalk.i64_in _ (by omega), hkk2]; omega
  have hw3 : IntKind.i64.wrap ((s.k : Int) + 3) = (((stepS (stepS (stepS s))).k : Nat) : Int) := by rw [IntWalk.i64_in _ (by omega), hkk3]; omega
  have hsf : (stepS (stepS (stepS s))).f = 0 := hf
  have HP := Lib.hid (fun (W : World) (hW : TkW g ts W) => rplain_any (cap := cap) (stepS (stepS s)).k hW)
  have HT2 := Lib.hid (fun (W : World) (hW : TkW g ts W) => rtok_any (cap := cap) (stepS (stepS s)).k hW)
  rw [← cur_tk (ts := ts) (s := stepS (stepS s)) hf] at HT2
  have hk2b := hk2
  rw [cur_tk (s := stepS (stepS s)) hf] at hk2b
  rw [show plD (tkAt ts (stepS (stepS s)).k) = ⟨0, 0, 0, 0⟩ from if_pos hk2b] at HP
  rw [← cur_tk (ts := ts) hf] at HT
  have hk1 : ((cur ts s).kind : Int) = 1 := by omega
  generalize stepS (stepS (stepS s)) = s3 at hw3 hsf ⊢
  generalize cur ts (stepS (stepS s)) = u at HT2 htu ⊢
  generalize (stepS (stepS s)).k = k2 at HP HT2 hw2
  generalize cur ts s = t at HT hk1 htx ⊢
  generalize (stepS s).k = k1 at H40 H91 H46 hw1
  clear h Z hk h40 h91 h46 e40 e91 e46 hf hk2 hk2b hkk1 hkk2 hkk3
  go_enter Tryz.func137, Tryz.ntmps137
  go_wp2_with fail
  generalize w.alloc _ = W at HT K0 ZB T0 ⊢
  refine HT.out.mono ?_
  rintro e w1 ⟨rfl, b1⟩
  have b1a := b1.alloc b1.size (.cells #[.int .i64 (t.kind : Nat), .string t.text, .int .i64 (t.n : Nat), .bool t.same, .int .i64 (t.pos : Nat), .int .i64 (t.line : Nat), .int .i64 (t.col : Nat)] 50)
  have I1 := Lib.hid (show FxI g ts w1.heap.size t w _ from ⟨ZB.out.trans (b1a.mono ZB.out.size), T0.out.below b1a, (b1a.block _ (heap_lt K0.out)).trans K0.out, heap_new w1 _, Nat.lt_of_lt_of_le (heap_lt K0.out) b1.size⟩)
  generalize hzt : w1.heap.size = zt at I1
  clear HT b1 b1a K0 ZB T0
  unfold tokV tokCells
  rw [hk1] at I1 ⊢
  clear hk1
  go_wp2_with fail
  generalize w1.alloc _ = W1 at I1 ⊢
  refine (H40.out _ I1.out.tk).mono ?_
  rintro e w2 ⟨rfl, b2⟩
  have I2 := Lib.hid (I1.out.next b2)
  clear I1 b2
  go_wp2_with fail
  refine (H91.out _ I2.out.tk).mono ?_
  rintro e w3 ⟨rfl, b3⟩
  have I3 := Lib.hid (I2.out.next b3)
  clear I2 b3
  go_wp2_with fail
  refine (H46.out _ I3.out.tk).mono ?_
  rintro e w4 ⟨rfl, b4⟩
  have I4 := Lib.hid (I3.out.next b4)
  clear I3 b4
  go_wp2_with fail
  refine (HP.out _ I4.out.tk).mono ?_
  rintro e w5 ⟨rfl, b5⟩
  have I5 := Lib.hid ((I4.out.next b5).next ((Below.refl w5.heap.size w5).alloc (Nat.le_refl _) (.cells #[.int .i64 0, .int .i64 0, .int .i64 0, .int .i64 0] 30)))
  clear I4 b5
  unfold dgV
  go_wp2_with fail
  generalize w5.alloc _ = W5 at I5 ⊢
  have KT5 := Lib.hid (show W5.drew.cell? ⟨zt, 1, none⟩ = some (.string t.text) from box_cells I5.out.drew.kt 1)
  have hgt := I5.out.gt
  have hft := field_txt (u.kind : Nat) (u.n : Nat) (u.pos : Nat) (u.line : Nat) (u.col : Nat) u.text u.same
  go_region_held3 (fun W' => W'.cell? ⟨zt, 1, none⟩ = some (.string t.text))
    (first | with_reducible exact KT5.out | with_reducible exact KT6.out | with_reducible exact KT7.out | with_reducible assumption)
    (first
      | (go_at_call 23; refine (HT2.out _ I5.out.drew.tk).mono ?_; rintro e6 w6 ⟨rfl, b6⟩; have I6 := Lib.hid (I5.out.drew.next b6); have f6 : ∀ o, w6.frozen? ⟨w.heap.size, o, none⟩ = false := fun o => by { simp [World.frozen?, I6.out.k0] }; have l6 := heap_lt I6.out.k0; have c6 := box_cells I6.out.k0; have KT6 := Lib.hid (show w6.cell? ⟨zt, 1, none⟩ = some (.string t.text) from box_cells I6.out.kt 1); have KT7 := Lib.hid (show (s10 w6 w.heap.size (.int .i64 6) (.int .i64 0) (.string t.text) (.string u.text) (.slice none 0 0) (.int .i64 (s3.k : Nat)) (.int .i64 0) (.int .i64 0) (.int .i64 0) (.int .i64 0)).cell? ⟨zt, 1, none⟩ = some (.string t.text) from box_cells ((s10_ne w6 (show zt ≠ w.heap.size by omega) _ _ _ _ _ _ _ _ _ _).trans I6.out.kt) 1); unfold tokV tokCells; clear b6))
  all_goals
    go_wp2_with fail
    exact bodyPost_ret (v := gotV 6 0 t.text u.text none 0 0 s3.k ⟨0, 0, 0, 0⟩) (results_cell (i := 6) (b := w.heap.size) Tryz.results137 Tryz.isAgg56 Tryz.sizeOf56 rfl rfl (s10_heap I6.out.k0 _ _ _ _ _ _ _ _ _ _)) rfl ⟨s10_below I6.out.bel _ _ _ _ _ _ _ _ _ _, .inl ⟨hsf, _, _, _, _, _, _, _, rfl, ExAt.leaf _ (by omega) (by omega) (by omega) (by omega) (by unfold maxLen; omega) (by unfold maxLen; omega)⟩⟩
end Go.Proofs.YtpcldpnaljheoaaGreatDoor
