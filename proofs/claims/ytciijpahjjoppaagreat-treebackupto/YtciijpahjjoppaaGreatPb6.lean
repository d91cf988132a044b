/-
  Texts of this proof, put together.
-/
import Derived.Test.YtciijpahjjoppaaGreatPb5
import Derived.Test.YtciijpahjjoppaaGreatPb3
import Derived.Deep.CutBlock
import Derived.Deep.DeepCutAuto
import Derived.Test.YtciijpahjjoppaaGreatPb2
import Derived.Deep.RegionHeld3
section
namespace Go.Proofs.YtciijpahjjoppaaGreat
open Go.RowKit Go.Deep Go.Maps

def depF (f : List D → Nat) (a : Nat) (x : List D) : Nat := if isUp x then a else max a (f x)
def depL (f : List D → Nat) : List D → Nat
  | [.int _, .int _, .str _, .str _, .row l] => l.foldl (depF f) 0 + 1
  | _ => 1
def dep : Nat → List D → Nat
  | 0 => fun _ => 1
  | m + 1 => depL (dep m)
theorem fold_le {f : List D → Nat} {B : Nat} (hf : ∀ x, f x ≤ B) : ∀ (l : List (List D)) (a : Nat), a ≤ B → l.foldl (depF f) a ≤ B
  | [], _, h => h
  | y :: r, a, h => fold_le hf r _ (by
    unfold depF
    split
    · exact h
    · exact Nat.max_le.2 ⟨h, hf y⟩)
theorem dep_le (m : Nat) : ∀ x, dep m x ≤ m + 1 := by
  induction m with
  | zero => intro x; simp [dep]
  | succ m ih =>
    intro x
    show depL (dep m) x ≤ m + 1 + 1
    unfold depL
    split
    · exact Nat.succ_le_succ (fold_le ih _ 0 (Nat.zero_le _))
    · omega
theorem foldl_take_succ {l : List (List D)} {k : Nat} {x : List D} (hx : l[k]? = some x) (f : Nat → List D → Nat) (a : Nat) : (l.take (k + 1)).foldl f a = f ((l.take k).foldl f a) x := by
  rw [List.take_add_one, hx, List.foldl_append]
  rfl
set_option maxRecDepth 100000 in
set_option maxHeartbeats 2000000 in
theorem deep_step (w0 : World) (m : Nat) (hm : m < 1000) (op n : Int) (nm fd : ByteArray) (la : Option Addr) (l : List (List D)) (lc : Nat) (hA : At w0 (.slice la l.length lc) (.row l)) (hs : ∀ x ∈ l, ShE x)
    (hf : ∀ x ∈ l, ∀ vs, AllAt w0 vs x → ∀ W, Below w0.heap.size w0 W → Calls Tryz.prog 27 #[.agg ⟨vs⟩, .int .i64 (m : Nat)] W fun e W' => e = .returned (.int .i64 (dep m x : Nat)) ∧ Below W.heap.size W W') (w : World) (hW : Below w0.heap.size w0 w) :
    Calls Tryz.prog 27 #[.agg #[.int .i64 op, .int .i64 n, .string nm, .string fd, .slice la l.length lc], .int .i64 ((m + 1 : Nat) : Int)] w fun e w' => e = .returned (.int .i64 ((l.foldl (depF (dep m)) 0 + 1 : Nat) : Int)) ∧ Below w.heap.size w w' := by
  have HA := Lib.hid hA
  have HS := Lib.hid hs
  have HF := Lib.hid hf
  have HW := Lib.hid hW
  have hle := hA.len_le
  have hm1 : decide ((0 : Int) < ((m + 1 : Nat) : Int)) = true := by simp
  have hbnd : ∀ k, (l.take k).foldl (depF (dep m)) 0 ≤ m + 1 := fun k => fold_le (dep_le m) _ 0 (Nat.zero_le _)
  have HBN := Lib.hid hbnd
  have KB := Lib.hid (heap_new w (.cells #[.int .i64 op, .int .i64 n, .string nm, .string fd, .slice la l.length lc] 24))
  have R0 := Lib.hid ((Below.refl w.heap.size w).alloc (Nat.le_refl _) (.cells #[.int .i64 op, .int .i64 n, .string nm, .string fd, .slice la l.length lc] 24))
  clear hA hs hf hW hbnd
  generalize hmm : ((m + 1 : Nat) : Int) = mm at *
  go_enter Tryz.func27, Tryz.ntmps27
  go_wp2_with fail
  go_loopw [5, 6] (fun dv iv wr => ∃ k : Nat, k ≤ l.length ∧ iv = .int .i64 k ∧ dv = .int .i64 (((l.take k).foldl (depF (dep m)) 0 : Nat) : Int) ∧ Hid (wr.heap[w.heap.size]? = some (.cells #[.int .i64 op, .int .i64 n, .string nm, .string fd, .slice la l.length lc] 24)) ∧ Below w.heap.size w wr) (fun _ i _ => l.length - (intOf i).toNat)
  case atStart => exact ⟨0, Nat.zero_le _, rfl, rfl, KB, R0.out⟩
  case round =>
    obtain ⟨k, hk, rfl, rfl, KK, hb⟩ := hrel
    have HB := Lib.hid hb
    have cc := box_cells KK.out
    clear hb
    by_cases hlt : k < l.length
    · obtain ⟨b, o, vs, ds, rfl, hbl, hx, hv, hc⟩ := HA.out.elem hlt
      have hfn := HF.out ds (List.mem_of_getElem? hx) vs hv
      obtain ⟨op2, n2, nm2, fd2, kl, kla, klc, hds, hvs, _⟩ := hv.openE (HS.out _ (List.mem_of_getElem? hx))
      subst hvs
      have hdl : ds.length = 5 := by rw [hds]; rfl
      rw [hdl] at hc
      have B0 := HW.out.trans (HB.out.mono HW.out.size)
      have c0 := (B0.cell (p := ⟨b, o + k * 5, none⟩) hbl).trans (hc 0 _ rfl)
      have c1 := (B0.cell (p := ⟨b, o + k * 5 + 1, none⟩) hbl).trans (hc 1 _ rfl)
      have c2 := (B0.cell (p := ⟨b, o + k * 5 + 2, none⟩) hbl).trans (hc 2 _ rfl)
      have c3 := (B0.cell (p := ⟨b, o + k * 5 + 3, none⟩) hbl).trans (hc 3 _ rfl)
      have c4 := (B0.cell (p := ⟨b, o + k * 5 + 4, none⟩) hbl).trans (hc 4 _ rfl)
      have hbw : b < wr.heap.size := Nat.lt_of_lt_of_le hbl B0.size
      have FN := Lib.hid (hfn _ B0)
      have HT := Lib.hid (foldl_take_succ hx (depF (dep m)) 0)
      have HU := Lib.hid (show isUp ds = (op2 == 25) by rw [hds]; rfl)
      have hb1 := HBN.out k
      have hdl2 := dep_le m ds
      clear hx hds hdl hc B0 hv hfn
      generalize (l.take k).foldl (depF (dep m)) 0 = A at *
      cases hu : op2 == 25 with
      | true =>
        have hne : (op2 != 25) = false := by rw [bne, hu]; rfl
        have HE := Lib.hid (show (l.take (k + 1)).foldl (depF (dep m)) 0 = A by rw [HT.out]; unfold depF; rw [HU.out, hu]; rfl)
        go_wp2_with fail
        go_roundw
        case rel => exact ⟨k + 1, by omega, by go_num, by rw [HE.out], KK, HB.out⟩
        case measure => simp [intOf]; omega
      | false =>
        have hne : (op2 != 25) = true := by rw [bne, hu]; rfl
        have HE := Lib.hid (show (l.take (k + 1)).foldl (depF (dep m)) 0 = max A (dep m ds) by rw [HT.out]; unfold depF; rw [HU.out, hu]; rfl)
        have hsub : mm - 1 = (m : Nat) := by omega
        go_wp2_with fail
        refine FN.out.mono ?_
        rintro e w3 ⟨rfl, b3⟩
        have HB3 := Lib.hid (HB.out.trans (b3.mono HB.out.size))
        have K3 := Lib.hid ((b3.block _ (heap_lt KK.out)).trans KK.out)
        clear b3 c0 c1 c2 c3 c4 cc
        generalize dep m ds = B at *
        go_wp2_with fail
        go_roundw
        case rel => exact ⟨k + 1, by omega, by go_num, by rw [HE.out]; simp [Int.max_def, Nat.max_def]; split <;> omega, K3, HB3.out⟩
        case measure => simp [intOf]; omega
    · obtain rfl : k = l.length := by omega
      have hT : (l.take l.length).foldl (depF (dep m)) 0 = l.foldl (depF (dep m)) 0 := by rw [List.take_length]
      have hb1 := HBN.out l.length
      have HT := Lib.hid hT
      clear hT
      generalize (l.take l.length).foldl (depF (dep m)) 0 = A at *
      go_wp2_with fail
      go_ret
      exact ⟨by rw [← HT.out]; rfl, HB.out⟩
end Go.Proofs.YtciijpahjjoppaaGreat
end
section
namespace Go.Proofs.YtciijpahjjoppaaGreat
open Go.RowKit Go.Deep Go.Maps

set_option maxRecDepth 100000 in
set_option maxHeartbeats 2000000 in
theorem deep_0 (op n : Int) (nm fd : ByteArray) (la : Option Addr) (len lc : Nat) (hl : len ≤ 9223372036854775807) (w : World) :
    Calls Tryz.prog 27 #[.agg #[.int .i64 op, .int .i64 n, .string nm, .string fd, .slice la len lc], .int .i64 0] w fun e w' => e = .returned (.int .i64 1) ∧ Below w.heap.size w w' := by
  have KB := Lib.hid (heap_new w (.cells #[.int .i64 op, .int .i64 n, .string nm, .string fd, .slice la len lc] 24))
  have R0 := Lib.hid ((Below.refl w.heap.size w).alloc (Nat.le_refl _) (.cells #[.int .i64 op, .int .i64 n, .string nm, .string fd, .slice la len lc] 24))
  go_enter Tryz.func27, Tryz.ntmps27
  go_wp2_with fail
  go_loopw [5, 6] (fun dv iv wr => iv = .int .i64 0 ∧ dv = .int .i64 0 ∧ wr = w.alloc (.cells #[.int .i64 op, .int .i64 n, .string nm, .string fd, .slice la len lc] 24)) (fun _ _ _ => 0)
  case atStart => exact ⟨rfl, rfl, rfl⟩
  case round =>
    obtain ⟨rfl, rfl, rfl⟩ := hrel
    by_cases hlt : 0 < len
    · have hd : decide ((0 : Int) < (len : Int)) = true := by simp; omega
      go_wp2_with fail
      go_ret
      exact ⟨rfl, R0.out⟩
    · obtain rfl : len = 0 := by omega
      go_wp2_with fail
      go_ret
      exact ⟨rfl, R0.out⟩
theorem deep_any (w0 : World) : ∀ (m : Nat), m < 1000 → ∀ (x : List D) (vs : List Value), ShE x → AllAt w0 vs x → ∀ W, Below w0.heap.size w0 W → Calls Tryz.prog 27 #[.agg ⟨vs⟩, .int .i64 (m : Nat)] W fun e W' => e = .returned (.int .i64 (dep m x : Nat)) ∧ Below W.heap.size W W'
  | 0, _, x, vs, hx, hv, W, _ => by
    obtain ⟨op, n, nm, fd, kl, kla, klc, rfl, rfl, _, _, _, _, akl, _⟩ := hv.openE hx
    exact deep_0 op n nm fd kla kl.length klc akl.len_le W
  | m + 1, hm, x, vs, hx, hv, W, hW => by
    obtain ⟨op, n, nm, fd, kl, kla, klc, rfl, rfl, _, _, _, _, akl, skl⟩ := hv.openE hx
    exact deep_step w0 m (by omega) op n nm fd kla kl klc akl skl (fun y hy us hu U hU => deep_any w0 m (by omega) y us (skl y hy) hu U hU) W hW
end Go.Proofs.YtciijpahjjoppaaGreat
end
section
namespace Go.Proofs.YtciijpahjjoppaaGreat
open Go.RowKit Go.Deep Go.Maps

theorem fold_le' {f : List D → Nat} {B : Nat} : ∀ (l : List (List D)) (a : Nat), a ≤ B → (∀ x ∈ l, isUp x = false → f x ≤ B) → l.foldl (depF f) a ≤ B
  | [], _, h, _ => h
  | y :: r, a, h, hf => fold_le' r _ (by
    unfold depF
    split
    · exact h
    · next hu => exact Nat.max_le.2 ⟨h, hf y (by simp) (by simpa using hu)⟩) (fun x hx => hf x (by simp [hx]))
theorem okAll_mem {l : List (List D)} {f : List D → Bool} (h : okAll l f = true) : ∀ x ∈ l, f x = true := by
  unfold okAll at h
  rw [Bool.and_eq_true] at h
  exact List.all_eq_true.1 h.2
theorem upD_isUp {d : Int} {x : List D} (h : upD d x = true) : isUp x = true := by
  unfold upD at h
  split at h
  · unfold upE at h
    simp only [Bool.and_eq_true] at h
    unfold isUp
    exact h.1
  · cases h
theorem okE_deep (d : Int) : ∀ (k m : Nat) (x : List D), okE d k x = true → dep m x ≤ k
  | 0, _, _, h => by simp [okE] at h
  | k + 1, 0, _, _ => by simp [dep]
  | k + 1, m + 1, x, h => by
    show depL (dep m) x ≤ k + 1
    unfold depL
    split
    · next op n nm fd l =>
      refine Nat.succ_le_succ (fold_le' l 0 (Nat.zero_le _) fun y hy hu => ?_)
      have ho : okE d k y = true := by
        unfold okE at h
        split at h
        · unfold callE at h
          simp only [Bool.and_eq_true] at h
          have h1 := okAll_mem h.2.2.2.2.1
          have h2 := okAll_mem h.2.2.2.2.2
          rw [← List.take_append_drop (firstU d l) l] at hy
          rcases List.mem_append.1 hy with hy | hy
          · exact h1 y hy
          · rw [upD_isUp (h2 y hy)] at hu; cases hu
        · unfold formE at h
          simp only [Bool.and_eq_true] at h
          exact okAll_mem h.2.2.2.2.2.2 y hy
      exact okE_deep d k m y ho
    · omega
end Go.Proofs.YtciijpahjjoppaaGreat
end
section
namespace Go.Proofs.YtciijpahjjoppaaGreat
open Go.RowKit Go.Deep Go.Maps

/-- The operands as the reference goes through them; up: one that is an ExUp has been. -/
def opsOK (d op : Int) (f : List D → Bool) : Bool → List (List D) → Bool
  | _, [] => true
  | up, x :: r => if isUp x then ((d == 1) && ((op == 7) && upD 1 x)) && opsOK d op f true r else (!up && f x) && opsOK d op f up r
theorem upD_not {d : Int} {x : List D} (h : isUp x = false) : upD d x = false := by
  cases hu : upD d x with
  | false => rfl
  | true => rw [upD_isUp hu] at h; cases h
theorem opsOK_true (f : List D → Bool) : ∀ l, opsOK 1 7 f true l = l.all (upD 1)
  | [] => rfl
  | x :: r => by
    unfold opsOK
    rw [opsOK_true f r, List.all_cons]
    cases hu : isUp x with
    | true => simp
    | false => simp [upD_not hu]
theorem opsOK_call (f : List D → Bool) : ∀ l, opsOK 1 7 f false l = ((l.take (l.findIdx isUp)).all f && (l.drop (l.findIdx isUp)).all (upD 1))
  | [] => rfl
  | x :: r => by
    unfold opsOK
    rw [List.findIdx_cons]
    cases hu : isUp x with
    | true => simp [opsOK_true]
    | false => simp [opsOK_call f r, Bool.and_assoc]
theorem opsOK_else (d op : Int) (f : List D → Bool) (hf : ∀ x, isUp x = true → f x = false) (h : (d == 1) = false ∨ (op == 7) = false) : ∀ l, opsOK d op f false l = l.all f
  | [] => rfl
  | x :: r => by
    unfold opsOK
    rw [List.all_cons]
    cases hu : isUp x with
    | true =>
      rw [hf x hu]
      rcases h with h | h <;> simp [h]
    | false => simp [opsOK_else d op f hf h r]
theorem okE_up (d : Int) (k : Nat) (x : List D) (h : isUp x = true) : okE d k x = false := by
  cases k with
  | zero => rfl
  | succ k =>
    unfold okE
    split
    · next heq => cases heq
    · next op n nm fd l heq =>
      have ho : op = 25 := by simpa [isUp] using h
      subst ho
      rfl
    · rfl
end Go.Proofs.YtciijpahjjoppaaGreat
end
section
namespace Go.Proofs.YtciijpahjjoppaaGreat
open Go.RowKit Go.Deep Go.Maps

def fok7 (op : Int) : Bool := fok op || (op == 7)
def nB (op n : Int) : Bool := decide (0 ≤ n) && decide (n ≤ fmost op)
def naB (d op : Int) (nm : ByteArray) : Bool := if op == 7 then okR d nm else nameW d (fname op) nm
def fiB (d op : Int) (fd : ByteArray) : Bool := nameW d (ffield op) fd
def wantE (op : Int) (len : Nat) : Int := if op == 7 then (len : Int) else fops op
/-- What form answers of an expression whose parts are these. -/
def refE (d op n : Int) (nm fd : ByteArray) (l : List (List D)) (f : List D → Bool) : Bool :=
  decide (l.length ≤ 512) && (fok7 op && (nB op n && (naB d op nm && (fiB d op fd && ((((l.length : Nat) : Int) == wantE op l.length) && opsOK d op f false l)))))
theorem zero_of (n : Int) : (decide (0 ≤ n) && decide (n ≤ 0)) = (n == 0) := by
  rw [Bool.eq_iff_iff]; simp; omega
theorem refE_eq (d op n : Int) (hd : d = 0 ∨ d = 1) (nm fd : ByteArray) (l : List (List D)) (f : List D → Bool) (hf : ∀ x, isUp x = true → f x = false) :
    refE d op n nm fd l f = if op == 7 then callE d n nm fd l f else formE d op n nm fd l f := by
  cases ho : op == 7 with
  | true =>
    have h7 : op = 7 := by simpa using ho
    subst h7
    have e1 : fok7 7 = true := rfl
    have e2 : nB 7 n = (n == 0) := zero_of n
    have e3 : naB d 7 nm = okR d nm := rfl
    have e4 : fiB d 7 fd = fd.toList.isEmpty := rfl
    have e5 : wantE 7 l.length = (l.length : Int) := rfl
    unfold refE callE
    rw [e1, e2, e3, e4, e5, if_pos rfl]
    have hops : (decide (l.length ≤ 512) && opsOK d 7 f false l) = (decide (l.length ≤ 512) && (okAll (l.take (firstU d l)) f && okAll (l.drop (firstU d l)) (upD d))) := by
      rcases hd with rfl | rfl
      · rw [opsOK_else 0 7 f hf (Or.inl rfl)]
        have e : firstU 0 l = l.length := rfl
        rw [e, List.take_length, List.drop_length]
        cases hl : decide (l.length ≤ 512) with
        | false => rfl
        | true =>
          have h1 : okAll l f = l.all f := by unfold okAll; rw [hl]; rfl
          rw [h1]
          simp [okAll]
      · rw [opsOK_call]
        have e : firstU 1 l = l.findIdx isUp := rfl
        rw [e]
        cases hl : decide (l.length ≤ 512) with
        | false => rfl
        | true =>
          have hl' : l.length ≤ 512 := of_decide_eq_true hl
          have h1 : okAll (l.take (l.findIdx isUp)) f = (l.take (l.findIdx isUp)).all f := by
            unfold okAll
            rw [decide_eq_true (by rw [List.length_take]; omega)]; rfl
          have h2 : okAll (l.drop (l.findIdx isUp)) (upD 1) = (l.drop (l.findIdx isUp)).all (upD 1) := by
            unfold okAll
            rw [decide_eq_true (by rw [List.length_drop]; omega)]; rfl
          rw [h1, h2]
    have hb : (((l.length : Nat) : Int) == ((l.length : Nat) : Int)) = true := by simp
    rw [hb]
    generalize (n == 0) = b1
    generalize okR d nm = b2
    generalize fd.toList.isEmpty = b3
    generalize opsOK d 7 f false l = b4 at *
    generalize (okAll (l.take (firstU d l)) f && okAll (l.drop (firstU d l)) (upD d)) = b5 at *
    generalize decide (l.length ≤ 512) = b6 at *
    revert hops
    cases b1 <;> cases b2 <;> cases b3 <;> cases b4 <;> cases b5 <;> cases b6 <;> simp
  | false =>
    have e1 : fok7 op = fok op := by unfold fok7; rw [ho]; simp
    have e3 : naB d op nm = nameW d (fname op) nm := by unfold naB; rw [ho]; rfl
    have e5 : wantE op l.length = fops op := by unfold wantE; rw [ho]; rfl
    unfold refE formE
    rw [e1, e3, e5, opsOK_else d op f hf (Or.inr ho)]
    unfold nB fiB okAll
    simp only [Bool.false_eq_true, if_false]
    generalize fok op = b1
    generalize decide (0 ≤ n) = b2
    generalize decide (n ≤ fmost op) = b3
    generalize nameW d (fname op) nm = b4
    generalize nameW d (ffield op) fd = b5
    generalize (((l.length : Nat) : Int) == fops op) = b6
    generalize l.all f = b7
    generalize decide (l.length ≤ 512) = b8
    cases b1 <;> cases b2 <;> cases b3 <;> cases b4 <;> cases b5 <;> cases b6 <;> cases b7 <;> cases b8 <;> rfl
theorem okE_ref (d : Int) (hd : d = 0 ∨ d = 1) (k : Nat) (op n : Int) (nm fd : ByteArray) (l : List (List D)) :
    okE d (k + 1) [.int op, .int n, .str nm, .str fd, .row l] = refE d op n nm fd l (okE d k) := by
  rw [refE_eq d op n hd nm fd l (okE d k) (okE_up d k)]
  rfl
end Go.Proofs.YtciijpahjjoppaaGreat
end
section
namespace Go.Proofs.YtciijpahjjoppaaGreat
open Go.RowKit Go.Deep Go.Maps

theorem opsOK_cons (d op : Int) (f : List D → Bool) (up : Bool) (x : List D) (r : List (List D)) : opsOK d op f up (x :: r) = if isUp x then ((d == 1) && ((op == 7) && upD 1 x)) && opsOK d op f true r else (!up && f x) && opsOK d op f up r := rfl
/-- Operands up to the k-th are right; up tells whether an ExUp was among them. -/
def OpsTo (d op : Int) (f : List D → Bool) (l : List (List D)) (k : Nat) (up : Bool) : Prop := opsOK d op f false l = opsOK d op f up (l.drop k)
theorem OpsTo.start (d op : Int) (f : List D → Bool) (l : List (List D)) : OpsTo d op f l 0 false := by unfold OpsTo; rw [List.drop_zero]
theorem drop_at {l : List (List D)} {k : Nat} {x : List D} (hx : l[k]? = some x) : l.drop k = x :: l.drop (k + 1) := by
  obtain ⟨h, e⟩ := List.getElem?_eq_some_iff.1 hx
  rw [List.drop_eq_getElem_cons h, e]
theorem OpsTo.up {d op : Int} {f : List D → Bool} {l : List (List D)} {k : Nat} {up : Bool} {x : List D} (h : OpsTo d op f l k up) (hx : l[k]? = some x) (hu : isUp x = true) (hb : ((d == 1) && ((op == 7) && upD 1 x)) = true) : OpsTo d op f l (k + 1) true := by
  unfold OpsTo at *
  rw [h, drop_at hx, opsOK_cons]
  rw [hu, hb]
  simp
theorem OpsTo.upBad {d op : Int} {f : List D → Bool} {l : List (List D)} {k : Nat} {up : Bool} {x : List D} (h : OpsTo d op f l k up) (hx : l[k]? = some x) (hu : isUp x = true) (hb : ((d == 1) && ((op == 7) && upD 1 x)) = false) : opsOK d op f false l = false := by
  unfold OpsTo at h
  rw [h, drop_at hx, opsOK_cons]
  rw [hu, hb]
  simp
theorem OpsTo.next {d op : Int} {f : List D → Bool} {l : List (List D)} {k : Nat} {x : List D} (h : OpsTo d op f l k false) (hx : l[k]? = some x) (hu : isUp x = false) (hb : f x = true) : OpsTo d op f l (k + 1) false := by
  unfold OpsTo at *
  rw [h, drop_at hx, opsOK_cons]
  rw [hu, hb]
  simp
theorem OpsTo.nextBad {d op : Int} {f : List D → Bool} {l : List (List D)} {k : Nat} {x : List D} (h : OpsTo d op f l k false) (hx : l[k]? = some x) (hu : isUp x = false) (hb : f x = false) : opsOK d op f false l = false := by
  unfold OpsTo at h
  rw [h, drop_at hx, opsOK_cons]
  rw [hu, hb]
  simp
theorem OpsTo.behind {d op : Int} {f : List D → Bool} {l : List (List D)} {k : Nat} {x : List D} (h : OpsTo d op f l k true) (hx : l[k]? = some x) (hu : isUp x = false) : opsOK d op f false l = false := by
  unfold OpsTo at h
  rw [h, drop_at hx, opsOK_cons]
  rw [hu]
  simp
theorem OpsTo.done {d op : Int} {f : List D → Bool} {l : List (List D)} {up : Bool} (h : OpsTo d op f l l.length up) : opsOK d op f false l = true := by
  unfold OpsTo at h
  rw [h, List.drop_length]
  unfold opsOK
  rfl
theorem below_drewN {B : Nat} {a w : World} (h : Below B a w) (n : Nat) : Below B a (w.drewN n) := ⟨h.os, h.tape, h.output, h.size, h.block⟩
theorem nB_1 (n : Int) (h : n ≤ 9223372036854775807) : nB 1 n = decide (0 ≤ n) := by
  unfold nB; rw [show fmost 1 = 9223372036854775807 from rfl, decide_eq_true h, Bool.and_true]
theorem nB_2 (n : Int) : nB 2 n = ((n == 0) || (n == 1)) := by
  unfold nB; rw [show fmost 2 = 1 from rfl, Bool.eq_iff_iff]; simp; omega
theorem nB_3 (n : Int) : nB 3 n = (decide (0 ≤ n) && decide (n ≤ 255)) := rfl
theorem nB_else (op n : Int) (h1 : op ≠ 1) (h2 : op ≠ 2) (h3 : op ≠ 3) : nB op n = (n == 0) := by
  unfold nB fmost; rw [if_neg h1, if_neg h2, if_neg h3]; exact zero_of n
set_option maxRecDepth 100000 in
set_option maxHeartbeats 4000000 in
theorem form_step (w0 : World) (d : Int) (hd : d = 0 ∨ d = 1) (m : Nat) (hm : m < 1000) (op n : Int) (nm fd : ByteArray) (la : Option Addr) (l : List (List D)) (lc : Nat) (hn2 : n ≤ 9223372036854775807) (hnm : nm.size ≤ 2000000) (hfd : fd.size ≤ 2000000) (hA : At w0 (.slice la l.length lc) (.row l)) (hs : ∀ x ∈ l, ShE x) (hsm : ∀ x ∈ l, mRow x ≤ 2000000)
    (hf : ∀ x ∈ l, ∀ vs, AllAt w0 vs x → ∀ W, Below w0.heap.size w0 W → Calls Tryz.prog 26 #[.int .i64 d, .agg ⟨vs⟩, .int .i64 (m : Nat)] W fun e W' => e = .returned (.bool (okE d m x)) ∧ Below W.heap.size W W') (w : World) (hW : Below w0.heap.size w0 w) :
    Calls Tryz.prog 26 #[.int .i64 d, .agg #[.int .i64 op, .int .i64 n, .string nm, .string fd, .slice la l.length lc], .int .i64 ((m + 1 : Nat) : Int)] w fun e w' => e = .returned (.bool (refE d op n nm fd l (okE d m))) ∧ Below w.heap.size w w' := by
  have HA := Lib.hid hA
  have HS := Lib.hid hs
  have HSM := Lib.hid hsm
  have HF := Lib.hid hf
  have HW := Lib.hid hW
  have HD := Lib.hid hd
  have hle := hA.len_le
  have hm0 : (((m + 1 : Nat) : Int) == 0) = false := by simp; omega
  have KB := Lib.hid (heap_new w (.cells #[.int .i64 op, .int .i64 n, .string nm, .string fd, .slice la l.length lc] 24))
  have R0 := Lib.hid ((Below.refl w.heap.size w).alloc (Nat.le_refl _) (.cells #[.int .i64 op, .int .i64 n, .string nm, .string fd, .slice la l.length lc] 24))
  clear hA hs hsm hf hW hd
  have HO := Lib.hid (show refE d op n nm fd l (okE d m) = (decide (l.length ≤ 512) && (fok7 op && (nB op n && (naB d op nm && (fiB d op fd && ((((l.length : Nat) : Int) == wantE op l.length) && opsOK d op (okE d m) false l)))))) from rfl)
  generalize hmm : ((m + 1 : Nat) : Int) = mm at *
  have HM := Lib.hid hmm
  clear hmm
  by_cases hlen : ¬ l.length ≤ 512
  · have hg : decide (512 < l.length) = true := by simp; omega
    have HO2 := Lib.hid (show refE d op n nm fd l (okE d m) = false by rw [HO.out, decide_eq_false hlen]; rfl)
    go_enter Tryz.func26, Tryz.ntmps26
    go_wp2_with fail
    go_ret
    exact ⟨by rw [HO2.out]; rfl, R0.out⟩
  replace hlen : l.length ≤ 512 := Classical.not_not.1 hlen
  have hg : decide (512 < l.length) = false := by simp; omega
  rw [decide_eq_true hlen, Bool.true_and] at HO
  go_enter Tryz.func26, Tryz.ntmps26
  go_wp2_with fail
  go_quiet (fail)
  go_upto_block 0 with fail
  go_cut [7, 8, 9, 10] (fun a b c e wc => a = .int .i64 (wantE op l.length) ∧ b = .bool (nB op n) ∧ c = .bool (naB d op nm) ∧ e = .bool (fiB d op fd) ∧ fok7 op = true ∧ Hid (wc.heap[w.heap.size]? = some (.cells #[.int .i64 op, .int .i64 n, .string nm, .string fd, .slice la l.length lc] 24)) ∧ Below w.heap.size w wc)
  case first =>
    by_cases h1 : op = 1
    · subst h1
      have E := Lib.hid (nB_1 n hn2)
      go_wp2_with fail
      go_meet
      exact ⟨rfl, by rw [E.out], rfl, rfl, rfl, KB, below_drewN R0.out _⟩
    by_cases h2 : op = 2
    · subst h2
      have E := Lib.hid (nB_2 n)
      cases hz : n == 0 with
      | true =>
        rw [hz] at E
        go_wp2_with fail
        go_meet
        exact ⟨rfl, by rw [E.out]; rfl, rfl, rfl, rfl, KB, below_drewN R0.out _⟩
      | false =>
        rw [hz] at E
        go_wp2_with fail
        go_meet
        exact ⟨rfl, by rw [E.out]; rfl, rfl, rfl, rfl, KB, below_drewN R0.out _⟩
    by_cases h3 : op = 3
    · subst h3
      have E := Lib.hid (nB_3 n)
      cases hz : decide (0 ≤ n) with
      | true =>
        rw [hz] at E
        go_wp2_with fail
        go_meet
        exact ⟨rfl, by rw [E.out]; rfl, rfl, rfl, rfl, KB, below_drewN R0.out _⟩
      | false =>
        rw [hz] at E
        go_wp2_with fail
        go_meet
        exact ⟨rfl, by rw [E.out]; rfl, rfl, rfl, rfl, KB, below_drewN R0.out _⟩
    have E := Lib.hid (nB_else op n h1 h2 h3)
    by_cases h4 : op = 4
    · subst h4
      have EN := Lib.hid (show naB d 4 nm = okName d nm from rfl)
      go_wp2_with fail
      refine (refName_any d nm _ (by unfold maxLen; omega)).mono ?_
      rintro e w1 ⟨rfl, b1⟩
      have B1 := Lib.hid ((below_drewN R0.out _).trans (b1.mono (below_drewN R0.out _).size))
      have K1 := Lib.hid ((b1.block _ (heap_lt KB.out)).trans KB.out)
      clear b1
      generalize okName d nm = r at *
      go_wp2_with fail
      go_meet
      exact ⟨rfl, by rw [E.out], by rw [EN.out], rfl, rfl, K1, B1.out⟩
    by_cases h5 : op = 5
    · subst h5
      have EN := Lib.hid (show naB d 5 nm = okName d nm from rfl)
      go_wp2_with fail
      refine (refName_any d nm _ (by unfold maxLen; omega)).mono ?_
      rintro e w1 ⟨rfl, b1⟩
      have B1 := Lib.hid ((below_drewN R0.out _).trans (b1.mono (below_drewN R0.out _).size))
      have K1 := Lib.hid ((b1.block _ (heap_lt KB.out)).trans KB.out)
      clear b1
      generalize okName d nm = r at *
      go_wp2_with fail
      go_meet
      exact ⟨rfl, by rw [E.out], by rw [EN.out], rfl, rfl, K1, B1.out⟩
    by_cases h6 : op = 6
    · subst h6
      have EN := Lib.hid (show naB d 6 nm = okName d nm from rfl)
      have EF := Lib.hid (show fiB d 6 fd = okName d fd from rfl)
      go_wp2_with fail
      refine (refName_any d nm _ (by unfold maxLen; omega)).mono ?_
      rintro e w1 ⟨rfl, b1⟩
      have B1 := Lib.hid ((below_drewN R0.out _).trans (b1.mono (below_drewN R0.out _).size))
      have K1 := Lib.hid ((b1.block _ (heap_lt KB.out)).trans KB.out)
      have cc := box_cells K1.out
      clear b1
      generalize okName d nm = r at *
      go_wp2_with fail
      refine (refName_any d fd _ (by unfold maxLen; omega)).mono ?_
      rintro e w2 ⟨rfl, b2⟩
      have B2 := Lib.hid (B1.out.trans (b2.mono B1.out.size))
      have K2 := Lib.hid ((b2.block _ (heap_lt K1.out)).trans K1.out)
      clear b2 cc
      generalize okName d fd = r2 at *
      go_wp2_with fail
      go_meet
      exact ⟨rfl, by rw [E.out], by rw [EN.out], by rw [EF.out], rfl, K2, B2.out⟩
    by_cases h7 : op = 7
    · subst h7
      have EN := Lib.hid (show naB d 7 nm = okR d nm from rfl)
      go_wp2_with fail
      refine (refRoutine_any d HD.out nm _ hnm).mono ?_
      rintro e w1 ⟨rfl, b1⟩
      have B1 := Lib.hid ((below_drewN R0.out _).trans (b1.mono (below_drewN R0.out _).size))
      have K1 := Lib.hid ((b1.block _ (heap_lt KB.out)).trans KB.out)
      have cc := box_cells K1.out
      clear b1
      generalize okR d nm = r at *
      go_wp2_with fail
      go_meet
      exact ⟨rfl, by rw [E.out], by rw [EN.out], rfl, rfl, K1, B1.out⟩
    by_cases h8 : op = 8 ∨ op = 9
    · rcases h8 with rfl | rfl
      all_goals
        go_wp2_with fail
        go_meet
        exact ⟨rfl, by rw [E.out], rfl, rfl, rfl, KB, below_drewN R0.out _⟩
    by_cases h10 : 10 ≤ op ∧ op ≤ 24
    · have : op = 10 ∨ op = 11 ∨ op = 12 ∨ op = 13 ∨ op = 14 ∨ op = 15 ∨ op = 16 ∨ op = 17 ∨ op = 18 ∨ op = 19 ∨ op = 20 ∨ op = 21 ∨ op = 22 ∨ op = 23 ∨ op = 24 := by omega
      clear h1 h2 h3 h4 h5 h6 h7 h8 h10
      rcases this with rfl | rfl | rfl | rfl | rfl | rfl | rfl | rfl | rfl | rfl | rfl | rfl | rfl | rfl | rfl
      all_goals
        go_wp2_with fail
        go_meet
        exact ⟨rfl, by rw [E.out], rfl, rfl, rfl, KB, below_drewN R0.out _⟩
    have HN := Lib.hid (show fok7 op = false by unfold fok7 fok wthn; simp; omega)
    have HO2 := Lib.hid (show refE d op n nm fd l (okE d m) = false by rw [HO.out, HN.out]; rfl)
    have g1 : (op == 1) = false := by simp; omega
    have g2 : (op == 2) = false := by simp; omega
    have g3 : (op == 3) = false := by simp; omega
    have g4 : (op == 4) = false := by simp; omega
    have g5 : (op == 5) = false := by simp; omega
    have g6 : (op == 6) = false := by simp; omega
    have g7 : (op == 7) = false := by simp; omega
    have g8 : (op == 8) = false := by simp; omega
    have g9 : (op == 9) = false := by simp; omega
    have g10 : (op == 10) = false := by simp; omega
    have g11 : (op == 11) = false := by simp; omega
    have g12 : (op == 12) = false := by simp; omega
    have g13 : (op == 13) = false := by simp; omega
    have g14 : (op == 14) = false := by simp; omega
    have g15 : (op == 15) = false := by simp; omega
    have g16 : (op == 16) = false := by simp; omega
    have g17 : (op == 17) = false := by simp; omega
    have g18 : (op == 18) = false := by simp; omega
    have g19 : (op == 19) = false := by simp; omega
    have g20 : (op == 20) = false := by simp; omega
    have g21 : (op == 21) = false := by simp; omega
    have g22 : (op == 22) = false := by simp; omega
    have g23 : (op == 23) = false := by simp; omega
    have g24 : (op == 24) = false := by simp; omega
    clear h1 h2 h3 h4 h5 h6 h7 h8 h10
    go_wp2_with fail
    go_ret
    exact ⟨by rw [HO2.out]; rfl, below_drewN R0.out _⟩
  case rest =>
    obtain ⟨rfl, rfl, rfl, rfl, hok, KK, hb⟩ := hcut
    have HB := Lib.hid hb
    have cc := box_cells KK.out
    rw [hok, Bool.true_and] at HO
    clear hb hok KB R0
    have HFP := Lib.hid (show ∀ b : Bool, refE d op n nm fd l (okE d m) = b → (Ending.returned (.bool b) = Ending.returned (.bool (refE d op n nm fd l (okE d m)))) from fun b h => by rw [h])
    generalize nB op n = b1 at *
    generalize naB d op nm = b2 at *
    generalize fiB d op fd = b3 at *
    generalize wantE op l.length = wt at *
    cases b1 with
    | false =>
      have HO2 := Lib.hid (HO.out.trans rfl)
      go_wp2_with fail
      go_ret
      exact ⟨by rw [HO2.out]; rfl, HB.out⟩
    | true =>
    cases b2 with
    | false =>
      have HO2 := Lib.hid (HO.out.trans rfl)
      go_wp2_with fail
      go_ret
      exact ⟨by rw [HO2.out]; rfl, HB.out⟩
    | true =>
    cases b3 with
    | false =>
      have HO2 := Lib.hid (HO.out.trans rfl)
      go_wp2_with fail
      go_ret
      exact ⟨by rw [HO2.out]; rfl, HB.out⟩
    | true =>
    cases hq : ((l.length : Int) == wt) with
    | false =>
      have hq2 : ((l.length : Int) != wt) = true := by rw [bne, hq]; rfl
      rw [hq] at HO
      have HO2 := Lib.hid (HO.out.trans rfl)
      clear hq
      go_wp2_with fail
      go_ret
      exact ⟨by rw [HO2.out]; rfl, HB.out⟩
    | true =>
    have hq2 : ((l.length : Int) != wt) = false := by rw [bne, hq]; rfl
    rw [hq] at HO
    have HO2 := Lib.hid (show refE d op n nm fd l (okE d m) = opsOK d op (okE d m) false l from HO.out.trans (by simp))
    clear hq HO
    go_wp2_with fail
    go_loopw [11, 12] (fun uv iv wr => ∃ (k : Nat) (up : Bool), k ≤ l.length ∧ iv = .int .i64 k ∧ uv = .bool up ∧ Hid (OpsTo d op (okE d m) l k up) ∧ Hid (wr.heap[w.heap.size]? = some (.cells #[.int .i64 op, .int .i64 n, .string nm, .string fd, .slice la l.length lc] 24)) ∧ Hid (Below w.heap.size w wr)) (fun _ i _ => l.length - (intOf i).toNat)
    case atStart => exact ⟨0, false, Nat.zero_le _, rfl, rfl, Lib.hid (OpsTo.start _ _ _ _), KK, HB⟩
    case round =>
      obtain ⟨k, up, hk, rfl, rfl, HT, KR, HR⟩ := hrel
      clear cc
      have cc := box_cells KR.out
      have hww : w.heap.size < wr.heap.size := heap_lt KR.out
      by_cases hlt : k < l.length
      · obtain ⟨b, o, vs, ds, rfl, hbl, hx, hv, hc⟩ := HA.out.elem hlt
        have hmem := List.mem_of_getElem? hx
        have hfn := HF.out ds hmem vs hv
        have hmr := HSM.out ds hmem
        obtain ⟨op2, n2, nm2, fd2, kl, kla, klc, hds, hvs, _⟩ := hv.openE (HS.out _ hmem)
        subst hvs
        rw [hds] at hmr
        simp only [mRow, mD] at hmr
        have hdl : ds.length = 5 := by rw [hds]; rfl
        rw [hdl] at hc
        have B0 := HW.out.trans (HR.out.mono HW.out.size)
        have c0 := (B0.cell (p := ⟨b, o + k * 5, none⟩) hbl).trans (hc 0 _ rfl)
        have c1 := (B0.cell (p := ⟨b, o + k * 5 + 1, none⟩) hbl).trans (hc 1 _ rfl)
        have c2 := (B0.cell (p := ⟨b, o + k * 5 + 2, none⟩) hbl).trans (hc 2 _ rfl)
        have c3 := (B0.cell (p := ⟨b, o + k * 5 + 3, none⟩) hbl).trans (hc 3 _ rfl)
        have c4 := (B0.cell (p := ⟨b, o + k * 5 + 4, none⟩) hbl).trans (hc 4 _ rfl)
        have hbw : b < wr.heap.size := Nat.lt_of_lt_of_le hbl B0.size
        have a1 := (Below.refl wr.heap.size wr).alloc (Nat.le_refl _) (.cells #[.int .i64 op2, .int .i64 n2, .string nm2, .string fd2, .slice kla kl.length klc] 24)
        have R1 := Lib.hid (HR.out.trans (a1.mono HR.out.size))
        have K1 := Lib.hid ((a1.block _ (heap_lt KR.out)).trans KR.out)
        have FN := Lib.hid (hfn _ (HW.out.trans (R1.out.mono HW.out.size)))
        have HX := Lib.hid hx
        have HU := Lib.hid (show isUp ds = (op2 == 25) by rw [hds]; rfl)
        have HUP := Lib.hid (show upD 1 ds = ((op2 == 25) && ((n2 == 0) && (fd2.toList.isEmpty && (decide (kl.length = 0) && okName 1 nm2)))) by rw [hds]; rfl)
        have hn2s : nm2.size ≤ maxLen := by unfold maxLen; omega
        clear hx hds hdl hc B0 hv hfn a1 hmr hmem
        cases hu : op2 == 25 with
        | true =>
          have hui := HU.out.trans hu
          rw [hu, Bool.true_and] at HUP
          have HUI := Lib.hid hui
          clear hui
          cases h1 : d == 1 with
          | false =>
            have h1' : (d != 1) = true := by rw [bne, h1]; rfl
            have HE := Lib.hid (HT.out.upBad HX.out HUI.out (by rw [h1]; rfl))
            clear h1
            go_wp2_with fail
            go_ret
            exact ⟨by rw [HO2.out, HE.out]; rfl, R1.out⟩
          | true =>
          have h1' : (d != 1) = false := by rw [bne, h1]; rfl
          cases h7 : op == 7 with
          | false =>
            have h7' : (op != 7) = true := by rw [bne, h7]; rfl
            have HE := Lib.hid (HT.out.upBad HX.out HUI.out (by rw [h7]; simp))
            clear h1 h7
            go_wp2_with fail
            go_ret
            exact ⟨by rw [HO2.out, HE.out]; rfl, R1.out⟩
          | true =>
          have h7' : (op != 7) = false := by rw [bne, h7]; rfl
          have HD1 := Lib.hid h1
          have HO7 := Lib.hid h7
          clear h1 h7
          go_wp2_with fail
          refine (refName_any 1 nm2 _ hn2s).mono ?_
          rintro e w3 ⟨rfl, b3⟩
          have R3 := Lib.hid (R1.out.trans (b3.mono R1.out.size))
          have K3 := Lib.hid ((b3.block _ (heap_lt K1.out)).trans K1.out)
          have c5 := box_cells ((b3.block _ (heap_lt (heap_new wr (.cells #[.int .i64 op2, .int .i64 n2, .string nm2, .string fd2, .slice kla kl.length klc] 24)))).trans (heap_new wr (.cells #[.int .i64 op2, .int .i64 n2, .string nm2, .string fd2, .slice kla kl.length klc] 24)))
          clear b3 c0 c1 c2 c3 c4 cc
          cases hnm3 : okName 1 nm2 with
          | false =>
            rw [hnm3] at HUP
            have HE := Lib.hid (HT.out.upBad HX.out HUI.out (by rw [HUP.out]; simp))
            go_wp2_with fail
            go_ret
            exact ⟨by rw [HO2.out, HE.out]; rfl, R3.out⟩
          | true =>
          rw [hnm3] at HUP
          cases hz : n2 == 0 with
          | false =>
            have hz' : (n2 != 0) = true := by rw [bne, hz]; rfl
            rw [hz] at HUP
            have HE := Lib.hid (HT.out.upBad HX.out HUI.out (by rw [HUP.out]; simp))
            go_wp2_with fail
            go_ret
            exact ⟨by rw [HO2.out, HE.out]; rfl, R3.out⟩
          | true =>
          have hz' : (n2 != 0) = false := by rw [bne, hz]; rfl
          rw [hz] at HUP
          cases hfe : fd2.toList.isEmpty with
          | false =>
            rw [hfe] at HUP
            have HE := Lib.hid (HT.out.upBad HX.out HUI.out (by rw [HUP.out]; simp))
            go_wp2_with fail
            go_ret
            exact ⟨by rw [HO2.out, HE.out]; rfl, R3.out⟩
          | true =>
          rw [hfe] at HUP
          by_cases hk0 : kl.length = 0
          · rw [decide_eq_true hk0] at HUP
            have HE := Lib.hid (HT.out.up HX.out HUI.out (by rw [HUP.out, HD1.out, HO7.out]; rfl))
            have hk1 : ((kl.length : Int) != 0) = false := by simp [hk0]
            have hk2 : (kl.length == 0) = true := by simp [hk0]
            clear hk0
            go_wp2_with fail
            go_roundw
            case rel => exact ⟨k + 1, true, by omega, by go_num, rfl, HE, K3, R3⟩
            case measure => simp [intOf]; omega
          · rw [decide_eq_false hk0] at HUP
            have HE := Lib.hid (HT.out.upBad HX.out HUI.out (by rw [HUP.out]; simp))
            have hk1 : ((kl.length : Int) != 0) = true := by rw [bne_iff_ne]; omega
            have hk2 : (kl.length == 0) = false := by simpa using hk0
            clear hk0
            go_wp2_with fail
            go_ret
            exact ⟨by rw [HO2.out, HE.out]; rfl, R3.out⟩
        | false =>
          have HUI := Lib.hid (HU.out.trans hu)
          cases up with
          | true =>
            have HE := Lib.hid (HT.out.behind HX.out HUI.out)
            go_wp2_with fail
            go_ret
            exact ⟨by rw [HO2.out, HE.out]; rfl, R1.out⟩
          | false =>
          have hsub : mm - 1 = (m : Nat) := by have := HM.out; omega
          go_wp2_with fail
          refine FN.out.mono ?_
          rintro e w3 ⟨rfl, b3⟩
          have R3 := Lib.hid (R1.out.trans (b3.mono R1.out.size))
          have K3 := Lib.hid ((b3.block _ (heap_lt K1.out)).trans K1.out)
          clear b3 c0 c1 c2 c3 c4 cc
          cases hr : okE d m ds with
          | false =>
            have HE := Lib.hid (HT.out.nextBad HX.out HUI.out hr)
            go_wp2_with fail
            go_ret
            exact ⟨by rw [HO2.out, HE.out]; rfl, R3.out⟩
          | true =>
            have HE := Lib.hid (HT.out.next HX.out HUI.out hr)
            go_wp2_with fail
            go_roundw
            case rel => exact ⟨k + 1, false, by omega, by go_num, rfl, HE, K3, R3⟩
            case measure => simp [intOf]; omega
      · obtain rfl : k = l.length := by omega
        have HE := Lib.hid (HT.out.done)
        go_wp2_with fail
        go_ret
        exact ⟨by rw [HO2.out, HE.out]; rfl, HR.out⟩
end Go.Proofs.YtciijpahjjoppaaGreat
end
section
namespace Go.Proofs.YtciijpahjjoppaaGreat
open Go.RowKit Go.Deep Go.Maps

set_option maxRecDepth 100000 in
set_option maxHeartbeats 2000000 in
theorem form_0 (d op n : Int) (nm fd : ByteArray) (la : Option Addr) (len lc : Nat) (w : World) :
    Calls Tryz.prog 26 #[.int .i64 d, .agg #[.int .i64 op, .int .i64 n, .string nm, .string fd, .slice la len lc], .int .i64 0] w fun e w' => e = .returned (.bool false) ∧ Below w.heap.size w w' := by
  have R0 := Lib.hid ((Below.refl w.heap.size w).alloc (Nat.le_refl _) (.cells #[.int .i64 op, .int .i64 n, .string nm, .string fd, .slice la len lc] 24))
  go_enter Tryz.func26, Tryz.ntmps26
  go_wp2_with fail
  go_ret
  exact ⟨rfl, R0.out⟩
theorem mRows_mem : ∀ {l : List (List D)} {x : List D}, x ∈ l → mRow x ≤ mRows l
  | y :: r, x, h => by
    rcases List.mem_cons.1 h with rfl | h
    · simp [mRows]
    · have := mRows_mem h; simp [mRows]; omega
theorem form_any (w0 : World) (d : Int) (hd : d = 0 ∨ d = 1) : ∀ (m : Nat), m < 1000 → ∀ (x : List D) (vs : List Value), ShE x → mRow x ≤ 2000000 → AllAt w0 vs x → ∀ W, Below w0.heap.size w0 W → Calls Tryz.prog 26 #[.int .i64 d, .agg ⟨vs⟩, .int .i64 (m : Nat)] W fun e W' => e = .returned (.bool (okE d m x)) ∧ Below W.heap.size W W'
  | 0, _, x, vs, hx, _, hv, W, _ => by
    obtain ⟨op, n, nm, fd, kl, kla, klc, rfl, rfl, _, _, _, _, akl, _⟩ := hv.openE hx
    exact form_0 d op n nm fd kla kl.length klc W
  | m + 1, hm, x, vs, hx, hb, hv, W, hW => by
    obtain ⟨op, n, nm, fd, kl, kla, klc, rfl, rfl, _, ⟨_, hn2⟩, _, _, akl, skl⟩ := hv.openE hx
    rw [okE_ref d hd m op n nm fd kl]
    simp only [mRow, mD] at hb
    exact form_step w0 d hd m (by omega) op n nm fd kla kl klc hn2 (by omega) (by omega) akl skl (fun y hy => by have := mRows_mem hy; omega) (fun y hy us hu U hU => form_any w0 d hd m (by omega) y us (skl y hy) (by have := mRows_mem hy; omega) hu U hU) W hW
set_option maxRecDepth 100000 in
set_option maxHeartbeats 2000000 in
theorem refExpr_any (w0 : World) (d : Int) (x : List D) (vs : List Value) (hx : ShE x) (hb : mRow x ≤ 2000000) (hv : AllAt w0 vs x) (w : World) (hW : Below w0.heap.size w0 w) :
    Calls Tryz.prog 10 #[.int .i64 d, .agg ⟨vs⟩] w fun e w' => e = .returned (.bool (chkE d x)) ∧ Below w.heap.size w w' := by
  have HFm := Lib.hid (fun (hd : d = 0 ∨ d = 1) (W : World) (hW : Below w0.heap.size w0 W) => form_any w0 d hd 48 (by omega) x vs hx hb hv W hW)
  have HDp := Lib.hid (fun (W : World) (hW : Below w0.heap.size w0 W) => deep_any w0 99 (by omega) x vs hx hv W hW)
  obtain ⟨op, n, nm, fd, kl, kla, klc, hxe, rfl, _⟩ := hv.openE hx
  have HW := Lib.hid hW
  clear hW hv hx hxe hb
  have R0 := Lib.hid ((Below.refl w.heap.size w).alloc (Nat.le_refl _) (.cells #[.int .i64 op, .int .i64 n, .string nm, .string fd, .slice kla kl.length klc] 24))
  have KP := Lib.hid (heap_new w (.cells #[.int .i64 op, .int .i64 n, .string nm, .string fd, .slice kla kl.length klc] 24))
  by_cases h0 : d = 0 ∨ d = 1
  · have HFn := Lib.hid (HFm.out h0)
    have hkn : knows d = true := by unfold knows; rcases h0 with rfl | rfl <;> rfl
    have HO := Lib.hid (show chkE d x = okE d 48 x by unfold chkE; rw [hkn]; rfl)
    have e0 : ((d != 0) && (d != 1)) = false := by rcases h0 with rfl | rfl <;> rfl
    have HDD := Lib.hid (okE_deep d 48 99 x)
    clear hkn HFm
    rcases h0 with rfl | rfl
    all_goals
      go_enter Tryz.func10, Tryz.ntmps10
      go_wp2_with fail
      refine (HFn.out _ (HW.out.trans (R0.out.mono HW.out.size))).mono ?_
      rintro e w1 ⟨rfl, b1⟩
      have R1 := Lib.hid (R0.out.trans (b1.mono R0.out.size))
      have c1 := box_cells ((b1.block _ (heap_lt KP.out)).trans KP.out)
      clear b1 e0
      cases hr : okE _ 48 x with
      | false =>
        go_wp2_with fail
        go_ret
        exact ⟨by rw [HO.out, hr]; rfl, R1.out⟩
      | true =>
        have hdp := HDD.out hr
        go_wp2_with fail
        refine (HDp.out _ (HW.out.trans (R1.out.mono HW.out.size))).mono ?_
        rintro e w2 ⟨rfl, b2⟩
        have R2 := Lib.hid (R1.out.trans (b2.mono R1.out.size))
        clear b2 c1
        generalize dep 99 x = q at *
        have hle : decide ((q : Int) ≤ 48) = true := by simp; omega
        go_wp2_with fail
        go_ret
        exact ⟨by rw [HO.out, hr]; rfl, R2.out⟩
  · have n0 : (d != 0) = true := by simp; omega
    have n1 : (d != 1) = true := by simp; omega
    have hkn : knows d = false := by unfold knows; simp; omega
    have HO := Lib.hid (show chkE d x = false by unfold chkE; rw [hkn]; rfl)
    clear hkn HFm HDp h0
    go_enter Tryz.func10, Tryz.ntmps10
    go_wp2_with fail
    go_ret
    exact ⟨by rw [HO.out]; rfl, R0.out⟩
end Go.Proofs.YtciijpahjjoppaaGreat
end
section
namespace Go.Proofs.YtciijpahjjoppaaGreat
open Go.RowKit Go.Shelf Go.Deep

def turnL {σ : Type} (f : σ → List D → List D × σ) : σ → List (List D) → List (List D) × σ
  | s, [] => ([], s)
  | s, x :: l => ((f s x).1 :: (turnL f (f s x).2 l).1, (turnL f (f s x).2 l).2)
theorem turnL_len {σ : Type} (f : σ → List D → List D × σ) : ∀ (l : List (List D)) (s : σ), (turnL f s l).1.length = l.length
  | [], _ => rfl
  | _ :: l, s => by simp [turnL, turnL_len f l]
theorem turnL_snoc {σ : Type} (f : σ → List D → List D × σ) (x : List D) : ∀ (l : List (List D)) (s : σ), turnL f s (l ++ [x]) = ((turnL f s l).1 ++ [(f (turnL f s l).2 x).1], (f (turnL f s l).2 x).2)
  | [], _ => rfl
  | y :: l, s => by simp [turnL, turnL_snoc f x l]
theorem turnL_same {σ : Type} (s : σ) : ∀ (l : List (List D)), turnL (fun s x => (x, s)) s l = (l, s)
  | [] => rfl
  | x :: l => by rw [turnL, turnL_same s l]
section
variable {σ : Type} {g : Nat} {c1 c2 : Value} (C : Clo σ g c1 c2)
def tF (s : σ) : List D → List D × σ
  | [.row m0, .row m1, .str nm, .int kd] => ([.row m0, .row m1, .str (C.nm s nm).1, .int kd], (C.nm s nm).2)
  | x => (x, s)
def tV (s : σ) : List D → List D × σ
  | [.row m0, .row m1, .str nm, .int kd, .int sz, .str tn] => ([.row m0, .row m1, .str (C.nm s nm).1, .int kd, .int sz, .str (C.nm (C.nm s nm).2 tn).1], (C.nm (C.nm s nm).2 tn).2)
  | x => (x, s)
def tP (s : σ) : List D → List D × σ
  | [.str nm, .int kd, .int sz, .str tn, .int md] => ([.str (C.nm s nm).1, .int kd, .int sz, .str (C.nm (C.nm s nm).2 tn).1, .int md], (C.nm (C.nm s nm).2 tn).2)
  | x => (x, s)
def tC (s : σ) : List D → List D × σ
  | [.row m0, .row m1, .str nm, .row fs, .row en] => ([.row m0, .row m1, .str (C.nm s nm).1, .row (turnL (tF C) (C.nm s nm).2 fs).1, .row en], (turnL (tF C) (C.nm s nm).2 fs).2)
  | x => (x, s)
def tE : Nat → σ → List D → List D × σ
  | 0, s, x => (x, s)
  | n + 1, s, [.int op, .int k, .str nm, .str fd, .row l] => ([.int op, .int k, .str (C.nm s nm).1, .str (C.nm (C.nm s nm).2 fd).1, .row (turnL (tE n) (C.nm (C.nm s nm).2 fd).2 l).1], (turnL (tE n) (C.nm (C.nm s nm).2 fd).2 l).2)
  | _ + 1, s, x => (x, s)
/-- The parts of a statement, in their order. -/
def tSx (n : Nat) (f : σ → List D → List D × σ) (s : σ) (nm pnm pfd : ByteArray) (pl ex bd el : List (List D)) : (ByteArray × ByteArray × ByteArray × List (List D) × List (List D) × List (List D) × List (List D)) × σ :=
  let a := C.nm s nm
  let b := C.nm a.2 pnm
  let c := C.nm b.2 pfd
  let d := turnL (tE C n) c.2 pl
  let e := turnL (tE C (n + 1)) d.2 ex
  let h := turnL f e.2 bd
  let i := turnL f h.2 el
  ((a.1, b.1, c.1, d.1, e.1, h.1, i.1), i.2)
def tS : Nat → σ → List D → List D × σ
  | 0, s, x => (x, s)
  | n + 1, s, [.row m0, .row m1, .int op, .str nm, .int pop, .int pn, .str pnm, .str pfd, .row pl, .row ex, .bool dn, .bool mo, .row bd, .row el, .row en, .row e2] =>
    let r := tSx C n (tS n) s nm pnm pfd pl ex bd el
    ([.row m0, .row m1, .int op, .str r.1.1, .int pop, .int pn, .str r.1.2.1, .str r.1.2.2.1, .row r.1.2.2.2.1, .row r.1.2.2.2.2.1, .bool dn, .bool mo, .row r.1.2.2.2.2.2.1, .row r.1.2.2.2.2.2.2, .row en, .row e2], r.2)
  | _ + 1, s, x => (x, s)
def tR : Nat → σ → List D → List D × σ
  | 0, s, x => (x, s)
  | n + 1, s, [.row m0, .row m1, .str nm, .int rs, .row ps, .row vr, .row inn, .row bd, .row en] =>
    let a := C.nm s nm
    let b := turnL (tP C) a.2 ps
    let c := turnL (tV C) b.2 vr
    let d := turnL (tR n) c.2 inn
    let e := turnL (tS C (n + 1)) d.2 bd
    ([.row m0, .row m1, .str a.1, .int rs, .row b.1, .row c.1, .row d.1, .row e.1, .row en], e.2)
  | _ + 1, s, x => (x, s)
def tG (n : Nat) (s : σ) : List D → List D × σ
  | [.str nm, .row be, .row mi, .row af, .row rc, .row vr, .row rt, .row bd, .row en] =>
    let a := C.nm s nm
    let b := turnL (tC C) a.2 rc
    let c := turnL (tV C) b.2 vr
    let d := turnL (tR C n) c.2 rt
    let e := turnL (tS C n) d.2 bd
    ([.str a.1, .row be, .row mi, .row af, .row b.1, .row c.1, .row d.1, .row e.1, .row en], e.2)
  | x => (x, s)
end
def nF : List D → List ByteArray
  | [_, _, .str nm, _] => parts nm
  | _ => []
def nV : List D → List ByteArray
  | [_, _, .str nm, _, _, .str tn] => parts nm ++ parts tn
  | _ => []
def nP : List D → List ByteArray
  | [.str nm, _, _, .str tn, _] => parts nm ++ parts tn
  | _ => []
def nC : List D → List ByteArray
  | [_, _, .str nm, .row fs, _] => parts nm ++ fs.flatMap nF
  | _ => []
def nE : Nat → List D → List ByteArray
  | 0, _ => []
  | n + 1, [_, _, .str nm, .str fd, .row l] => parts nm ++ (parts fd ++ l.flatMap (nE n))
  | _ + 1, _ => []
def nS : Nat → List D → List ByteArray
  | 0, _ => []
  | n + 1, [_, _, _, .str nm, _, _, .str pnm, .str pfd, .row pl, .row ex, _, _, .row bd, .row el, _, _] => parts nm ++ (parts pnm ++ (parts pfd ++ (pl.flatMap (nE n) ++ (ex.flatMap (nE (n + 1)) ++ (bd.flatMap (nS n) ++ el.flatMap (nS n))))))
  | _ + 1, _ => []
def nR : Nat → List D → List ByteArray
  | 0, _ => []
  | n + 1, [_, _, .str nm, _, .row ps, .row vr, .row inn, .row bd, _] => parts nm ++ (ps.flatMap nP ++ (vr.flatMap nV ++ (inn.flatMap (nR n) ++ bd.flatMap (nS (n + 1)))))
  | _ + 1, _ => []
def nG (n : Nat) : List D → List ByteArray
  | [.str nm, _, _, _, .row rc, .row vr, .row rt, .row bd, _] => parts nm ++ (rc.flatMap nC ++ (vr.flatMap nV ++ (rt.flatMap (nR n) ++ bd.flatMap (nS n))))
  | _ => []
section
variable {σ : Type} {g : Nat} {c1 c2 : Value} (C : Clo σ g c1 c2)
theorem Clo.pts_append (a b : List ByteArray) : ∀ s : σ, (C.pts s (a ++ b)).2 = (C.pts (C.pts s a).2 b).2 := by
  induction a with
  | nil => intro s; rfl
  | cons x a ih => intro s; exact ih _
theorem nm_state (s : σ) (x : ByteArray) : (C.nm s x).2 = (C.pts s (parts x)).2 := rfl
theorem turnL_state (f : σ → List D → List D × σ) (h : List D → List ByteArray) : ∀ (l : List (List D)) (_ : ∀ x ∈ l, ∀ s, (f s x).2 = (C.pts s (h x)).2) (s : σ), (turnL f s l).2 = (C.pts s (l.flatMap h)).2
  | [], _, s => rfl
  | x :: l, hf, s => by
    rw [List.flatMap_cons, C.pts_append, ← hf x (by simp) s]
    exact turnL_state f h l (fun y hy => hf y (by simp [hy])) _
theorem tF_state (s : σ) {x : List D} (hx : ShF x) : (tF C s x).2 = (C.pts s (nF x)).2 := by
  cases hx
  rfl
theorem tV_state (s : σ) {x : List D} (hx : ShV x) : (tV C s x).2 = (C.pts s (nV x)).2 := by
  cases hx
  exact (C.pts_append _ _ s).symm
theorem tP_state (s : σ) {x : List D} (hx : ShP x) : (tP C s x).2 = (C.pts s (nP x)).2 := by
  cases hx
  exact (C.pts_append _ _ s).symm
theorem tC_state (s : σ) {x : List D} (hx : ShC x) : (tC C s x).2 = (C.pts s (nC x)).2 := by
  cases hx with
  | mk m0 m1 nm fs en s0 s1 sf se =>
    refine Eq.trans ?_ (C.pts_append _ _ s).symm
    exact turnL_state C (tF C) nF fs (fun y hy s => tF_state C s (sf y hy)) _
theorem tE_state : ∀ (n : Nat) (s : σ) {x : List D} (_ : ShE x), (tE C n s x).2 = (C.pts s (nE n x)).2
  | 0, _, _, _ => rfl
  | n + 1, s, x, hx => by
    cases hx with
    | mk op k nm fd l sl =>
      show (turnL (tE C n) _ l).2 = (C.pts s (parts nm ++ (parts fd ++ l.flatMap (nE n)))).2
      rw [C.pts_append, C.pts_append]
      exact turnL_state C (tE C n) (nE n) l (fun y hy s => tE_state n s (sl y hy)) _
theorem tS_state : ∀ (n : Nat) (s : σ) {x : List D} (_ : ShS x), (tS C n s x).2 = (C.pts s (nS n x)).2
  | 0, _, _, _ => rfl
  | n + 1, s, x, hx => by
    cases hx with
    | mk m0 m1 op nm pop pn pnm pfd pl ex dn mo bd el en e2 s0 s1 spl sex sbd sel sen se2 =>
      show (turnL (tS C n) _ el).2 = (C.pts s (parts nm ++ (parts pnm ++ (parts pfd ++ (pl.flatMap (nE n) ++ (ex.flatMap (nE (n + 1)) ++ (bd.flatMap (nS n) ++ el.flatMap (nS n)))))))).2
      rw [C.pts_append, C.pts_append, C.pts_append, C.pts_append, C.pts_append, C.pts_append]
      rw [turnL_state C (tS C n) (nS n) el (fun y hy s => tS_state n s (sel y hy)), turnL_state C (tS C n) (nS n) bd (fun y hy s => tS_state n s (sbd y hy)), turnL_state C (tE C (n + 1)) (nE (n + 1)) ex (fun y hy s => tE_state C (n + 1) s (sex y hy)), turnL_state C (tE C n) (nE n) pl (fun y hy s => tE_state C n s (spl y hy))]
      rfl
theorem tR_state : ∀ (n : Nat) (s : σ) {x : List D} (_ : ShR x), (tR C n s x).2 = (C.pts s (nR n x)).2
  | 0, _, _, _ => rfl
  | n + 1, s, x, hx => by
    cases hx with
    | mk m0 m1 nm rs ps vr inn bd en s0 s1 sps svr sinn sbd sen =>
      show (turnL (tS C (n + 1)) (turnL (tR C n) (turnL (tV C) (turnL (tP C) (C.nm s nm).2 ps).2 vr).2 inn).2 bd).2 = (C.pts s (parts nm ++ (ps.flatMap nP ++ (vr.flatMap nV ++ (inn.flatMap (nR n) ++ bd.flatMap (nS (n + 1))))))).2
      rw [C.pts_append, C.pts_append, C.pts_append, C.pts_append]
      rw [turnL_state C (tS C (n + 1)) (nS (n + 1)) bd (fun y hy s => tS_state C (n + 1) s (sbd y hy)), turnL_state C (tR C n) (nR n) inn (fun y hy s => tR_state n s (sinn y hy)), turnL_state C (tV C) nV vr (fun y hy s => tV_state C s (svr y hy)), turnL_state C (tP C) nP ps (fun y hy s => tP_state C s (sps y hy))]
      rfl
theorem tG_state (n : Nat) (s : σ) {x : List D} (hx : ShG x) : (tG C n s x).2 = (C.pts s (nG n x)).2 := by
  cases hx with
  | mk nm be mi af rc vr rt bd en sbe smi saf src svr srt sbd sen =>
    show (turnL (tS C n) (turnL (tR C n) (turnL (tV C) (turnL (tC C) (C.nm s nm).2 rc).2 vr).2 rt).2 bd).2 = (C.pts s (parts nm ++ (rc.flatMap nC ++ (vr.flatMap nV ++ (rt.flatMap (nR n) ++ bd.flatMap (nS n)))))).2
    rw [C.pts_append, C.pts_append, C.pts_append, C.pts_append]
    rw [turnL_state C (tS C n) (nS n) bd (fun y hy s => tS_state C n s (sbd y hy)), turnL_state C (tR C n) (nR n) rt (fun y hy s => tR_state C n s (srt y hy)), turnL_state C (tV C) nV vr (fun y hy s => tV_state C s (svr y hy)), turnL_state C (tC C) nC rc (fun y hy s => tC_state C s (src y hy))]
    rfl
end
end Go.Proofs.YtciijpahjjoppaaGreat
end
section
namespace Go.Proofs.YtciijpahjjoppaaGreat
open Go.RowKit Go.Shelf Go.Deep

theorem wp_buildSlice1 {ops : Array Oper} {rest : List Oper} {o : Oper} {a : Act} {Q : Exit → Act → World → Prop} (hgd : o.guard = none) (x : Operand) (T E : TypeId) (ho : o.op = .buildSlice T 1 #[(0, x)]) (ht : Tryz.prog.underlying T = some (.slice E)) (k : Nat) (hsz : ∀ w, (sizeOf E).run Tryz.prog w = .ok k w) (z : Value) (hz : ∀ w, (zeroValue E).run Tryz.prog w = .ok z w) (hk : 0 < k) (hk2 : k ≤ 100)
    {w : World} (vs : List Value) (hx : a.eval x = .agg ⟨vs⟩) (hlen : vs.length = k)
    (h : wpList Tryz.prog ops Q rest (a.put o.dst (.slice (some ⟨w.heap.size, 0, none⟩) 1 1)) (w.alloc (.cells ⟨vs⟩ E))) : wpList Tryz.prog ops Q (o :: rest) a w := by
  refine wpList_plain hgd fun K hK => ?_
  unfold Oper.wp execOp
  have hr := run_buildSlice1 (w := w) ht hsz hz hk hk2 hlen
  simp only [ho, List.map_toArray, List.map_cons, List.map_nil, hx]
  rw [Sem.run_bind, hr]
  exact hK _ _ h
theorem wp_makeRow {ops : Array Oper} {rest : List Oper} {o : Oper} {a : Act} {Q : Exit → Act → World → Prop} (hgd : o.guard = none) (x : Operand) (T E : TypeId) (ho : o.op = .makeSlice T (.const (.int .i64 0)) x) (i : TypeInfo) (z : Value) (size : Nat) (ht : Tryz.prog.underlying T = some (.slice E)) (hi : Tryz.prog.info? E = some i) (hz : i.zero = some z) (hsize : i.size = size)
    {w : World} (c : Nat) (hx : a.eval x = .int .i64 c) (hbytes : i.bytes * c ≤ 281474976710656) (h63 : c ≤ maxLen)
    (h : ∀ w', w'.ownsRow w.heap.size E size (.slice (some ⟨w.heap.size, 0, none⟩) 0 c) 0 [] → w.grownBy w' none → wpList Tryz.prog ops Q rest (a.put o.dst (.slice (some ⟨w.heap.size, 0, none⟩) 0 c)) w') : wpList Tryz.prog ops Q (o :: rest) a w := by
  refine wpList_plain hgd fun K hK => ?_
  unfold Oper.wp execOp
  obtain ⟨w', hr, h1, h2⟩ := run_make_own (P := Tryz.prog) w w.heap.size T E i z size ht hi hz hsize .i64 .i64 c hbytes h63 (Nat.le_refl _)
  have he : a.eval (.const (.int .i64 0)) = .int .i64 0 := rfl
  simp only [ho, he, hx]
  rw [Sem.run_bind, hr]
  exact hK _ _ (h w' h1 h2)

theorem flat_at {K : Nat} : ∀ (vss : List (List Value)) (j i : Nat) (vs : List Value), (∀ us ∈ vss, us.length = K) → vss[j]? = some vs → i < K → vss.flatten[j * K + i]? = vs[i]?
  | [], j, _, _, _, h, _ => by simp at h
  | us :: r, 0, i, vs, hl, h, hi => by
    simp at h
    subst h
    rw [List.flatten_cons, List.getElem?_append_left (by rw [hl us (by simp)]; omega)]
    congr 1
    omega
  | us :: r, j + 1, i, vs, hl, h, hi => by
    rw [List.flatten_cons, List.getElem?_append_right (by rw [hl us (by simp), Nat.add_mul]; omega), hl us (by simp), show (j + 1) * K + i - K = j * K + i by rw [Nat.add_mul]; omega]
    exact flat_at r j i vs (fun x hx => hl x (by simp [hx])) (by simpa using h) hi

section
variable {σ : Type} {g : Nat} {c1 c2 : Value}
/-- What is new since block n, or lies below block lo. -/
noncomputable def NewN (C : Clo σ g c1 c2) (lo n : Nat) (W : World) : World := Mk (fun b => C.O W b ∨ (lo ≤ b ∧ b < n)) W
theorem newN_kept {C : Clo σ g c1 c2} {lo n : Nat} {W W' : World} (h : Kept C.O C.hi W W') : Sub (NewN C lo n W) (NewN C lo n W') :=
  sub_of_blocks h.size _ _ fun b hb hp => ⟨fun e => by rcases e with e | e; exact h.not_own hb (fun o => hp (.inl o)) e; exact hp (.inr e), h.block b hb fun o => hp (.inl o)⟩
theorem newN_less {C : Clo σ g c1 c2} {lo n n' : Nat} {W : World} (h : n' ≤ n) : Sub (NewN C lo n W) (NewN C lo n' W) :=
  sub_of_blocks (Nat.le_refl _) _ _ fun b _ hp => ⟨fun e => by rcases e with e | e; exact hp (.inl e); exact hp (.inr ⟨e.1, by omega⟩), rfl⟩
theorem newN_step {C : Clo σ g c1 c2} {lo n : Nat} {W W' : World} (hs : W.heap.size ≤ W'.heap.size) (hO : ∀ b, b < W.heap.size → C.O W' b → C.O W b) (hb : ∀ b, b < W.heap.size → ¬ (lo ≤ b ∧ b < n) → ¬ C.O W b → W'.heap[b]? = W.heap[b]?) : Sub (NewN C lo n W) (NewN C lo n W') :=
  sub_of_blocks hs _ _ fun b hl hp => ⟨fun e => by rcases e with e | e; exact hp (.inl (hO b hl e)); exact hp (.inr e), hb b hl (fun e => hp (.inr e)) fun e => hp (.inl e)⟩
theorem newN_ground {C : Clo σ g c1 c2} {n : Nat} {w0 W : World} {m : Nat} {st : σ} (hI : C.I m st W) (hlow : w0.heap.size ≤ C.low) (hb : Below w0.heap.size w0 W) : Sub w0 (NewN C w0.heap.size n W) :=
  sub_low _ hb fun b e => by
    rcases e with e | e
    · have := (C.ltO hI e).1; omega
    · exact e.1

structure TuJ (C : Clo σ g c1 c2) (lo m : Nat) (w : World) (st : σ) (T : TypeId) (K : Nat) (v : Value) (k : Nat) (vss : List (List Value)) (ls : List (List D)) (W : World) : Prop where
  i : C.I m st W
  row : W.ownsRow w.heap.size T K v k vss.flatten
  no : ∀ b, v.ownBlock = some b → ¬ C.O W b
  kept : Kept C.O C.hi w W
  low : C.low ≤ w.heap.size
  len : vss.length = k ∧ ls.length = k
  one : ∀ vs ∈ vss, vs.length = K
  dlen : ∀ ds ∈ ls, ds.length = K
  dat : ∀ (j : Nat) (vs : List Value) (ds : List D), vss[j]? = some vs → ls[j]? = some ds → AllAt (Mk (fun b => C.O W b ∨ (lo ≤ b ∧ b < w.heap.size) ∨ v.ownBlock = some b) W) vs ds
theorem TuJ.start {C : Clo σ g c1 c2} {lo m : Nat} {w w1 : World} {st : σ} {T : TypeId} {K c : Nat} (hI : C.I m st w) (hown : w1.ownsRow w.heap.size T K (.slice (some ⟨w.heap.size, 0, none⟩) 0 c) 0 []) (hg : w.grownBy w1 none) : TuJ C lo m w st T K (.slice (some ⟨w.heap.size, 0, none⟩) 0 c) 0 [] [] w1 := by
  have hlow : C.low ≤ w.heap.size := Nat.le_trans (C.hiI hI).1 (C.hiI hI).2
  have hb : Below w.heap.size w w1 := (Below.refl w.heap.size w).grown hg (Nat.le_refl _) (fun j hj => by cases hj)
  obtain ⟨k1, i1⟩ := C.below (Kept.refl C.O C.hi w) hI hlow hb
  refine ⟨i1, by simpa using hown, fun b hbk e => ?_, k1, hlow, ⟨rfl, rfl⟩, by simp, by simp, fun j vs ds h => by simp at h⟩
  have hb' : w.heap.size = b := by simpa [Value.ownBlock] using hbk
  have := (C.keep hI hb.size (fun b h => hb.block b (by omega)) (fun b h => hb.block b (C.ltO hI h).2)).2 b e
  have := (C.ltO hI this).2
  omega
theorem TuJ.called {C : Clo σ g c1 c2} {lo m m' : Nat} {w : World} {st st' : σ} {T : TypeId} {K : Nat} {v : Value} {k : Nat} {vss : List (List Value)} {ls : List (List D)} {W W' : World} (h : TuJ C lo m w st T K v k vss ls W) (hk : Kept C.O C.hi W W') (hi : C.I m' st' W') : TuJ C lo m' w st' T K v k vss ls W' :=
  ⟨hi, ownsRow_same h.row fun b hb => hk.block b (rowBlock h.row hb).2.1 (h.no b hb), fun b hb => hk.not_own (rowBlock h.row hb).2.1 (h.no b hb), h.kept.trans hk, h.low, h.len, h.one, h.dlen,
    fun j vs ds h1 h2 => (h.dat j vs ds h1 h2).sub (sub_of_blocks hk.size _ _ fun b hb hp => ⟨fun e => by rcases e with e | e; exact hk.not_own hb (fun o => hp (.inl o)) e; exact hp (.inr e), hk.block b hb fun o => hp (.inl o)⟩)⟩
theorem TuJ.below {C : Clo σ g c1 c2} {lo m : Nat} {w : World} {st : σ} {T : TypeId} {K : Nat} {v : Value} {k : Nat} {vss : List (List Value)} {ls : List (List D)} {W W' : World} (h : TuJ C lo m w st T K v k vss ls W) (hb : Below W.heap.size W W') : TuJ C lo m w st T K v k vss ls W' := by
  obtain ⟨k1, i1⟩ := C.below (Kept.refl C.O C.hi W) h.i (Nat.le_trans h.low h.kept.size) hb
  exact h.called k1 i1
theorem TuJ.appended {C : Clo σ g c1 c2} {lo m : Nat} {w : World} {st : σ} {T : TypeId} {K : Nat} {v v' : Value} {k : Nat} {vss : List (List Value)} {ls : List (List D)} {W w1 : World} {n : Nat} {vs : List Value} {ds : List D} (h : TuJ C lo m w st T K v k vss ls W) (hlw : lo ≤ w.heap.size)
    (hl : vs.length = K) (hdl : ds.length = K) (hd : AllAt (NewN C lo n W) vs ds) (hn : w.heap.size ≤ n) (hvn : ∀ b, v.ownBlock = some b → b < n)
    (hg : W.grownBy w1 v.ownBlock) (hat : v'.ownBlock = v.ownBlock ∨ v'.ownBlock = some W.heap.size) (hr : w1.ownsRow w.heap.size T K v' (k + 1) (vss.flatten ++ vs)) :
    TuJ C lo m w st T K v' (k + 1) (vss ++ [vs]) (ls ++ [ds]) w1 := by
  have hblk : ∀ b, b < W.heap.size → some b ≠ v.ownBlock → w1.heap[b]? = W.heap[b]? := fun b h1 h2 => hg.block b h1 h2
  have hrow := h.row
  have own : ∀ b, C.O W b → w1.heap[b]? = W.heap[b]? := fun b hb => hblk b (C.ltO h.i hb).2 fun e => h.no b e.symm hb
  have old : ∀ b, b < w.heap.size → w1.heap[b]? = W.heap[b]? := fun b hb => hblk b (Nat.lt_of_lt_of_le hb h.kept.size) fun e => by have := (rowBlock hrow e.symm).1; omega
  obtain ⟨i1, o1⟩ := C.keep h.i hg.size (fun b hb => old b (by have := h.low; omega)) own
  have kk : Kept C.O C.hi w w1 := (C.next h.kept h.i h.low hg.os hg.tape hg.output hg.size own old).1
  have nob : ∀ b, v'.ownBlock = some b → b = W.heap.size ∨ v.ownBlock = some b := fun b hb => by
    rcases hat with e | e
    · exact .inr (e ▸ hb)
    · rw [e] at hb
      exact .inl (by simpa using hb.symm)
  refine ⟨i1, by rw [List.flatten_append]; simpa using hr, fun b hb e => ?_, kk, h.low, by simp [h.len.1, h.len.2], ?_, ?_, fun j us es h1 h2 => ?_⟩
  · have e' := o1 b e
    rcases nob b hb with rfl | e2
    · have := (C.ltO h.i e').2; omega
    · exact h.no b e2 e'
  · intro us hu
    rcases List.mem_append.1 hu with hu | hu
    · exact h.one us hu
    · rw [List.mem_singleton.1 hu]; exact hl
  · intro us hu
    rcases List.mem_append.1 hu with hu | hu
    · exact h.dlen us hu
    · rw [List.mem_singleton.1 hu]; exact hdl
  · have key : ∀ (P : Nat → Prop), (∀ b, C.O W b → P b) → (∀ b, v.ownBlock = some b → P b) → (∀ b, lo ≤ b ∧ b < w.heap.size → P b) → Sub (Mk P W) (Mk (fun b => C.O w1 b ∨ (lo ≤ b ∧ b < w.heap.size) ∨ v'.ownBlock = some b) w1) := fun P h1 h2 h3 =>
      sub_of_blocks hg.size _ _ fun b hb hp => ⟨fun e => by
        rcases e with e | e | e
        · exact hp (h1 b (o1 b e))
        · exact hp (h3 b e)
        · rcases nob b e with rfl | e
          · omega
          · exact hp (h2 b e), hblk b hb fun e => hp (h2 b e.symm)⟩
    by_cases hj : j < k
    · rw [List.getElem?_append_left (by rw [h.len.1]; exact hj)] at h1
      rw [List.getElem?_append_left (by rw [h.len.2]; exact hj)] at h2
      exact (h.dat j us es h1 h2).sub (key _ (fun b e => .inl e) (fun b e => .inr (.inr e)) fun b e => .inr (.inl e))
    · have hjk : j = k := by
        have := (List.getElem?_eq_some_iff.1 h1).1
        rw [List.length_append, h.len.1, List.length_singleton] at this
        omega
      subst hjk
      rw [List.getElem?_append_right (by rw [h.len.1]; exact Nat.le_refl _), h.len.1, Nat.sub_self] at h1
      rw [List.getElem?_append_right (by rw [h.len.2]; exact Nat.le_refl _), h.len.2, Nat.sub_self] at h2
      simp at h1 h2
      subst h1 h2
      refine hd.sub (key _ (fun b e => .inl e) (fun b e => ?_) fun b e => .inr ⟨e.1, by omega⟩)
      refine .inr ⟨?_, hvn b e⟩
      have := (rowBlock hrow e).1
      omega
theorem TuJ.done {C : Clo σ g c1 c2} {lo m : Nat} {w : World} {st : σ} {T : TypeId} {K : Nat} {v : Value} {k : Nat} {vss : List (List Value)} {ls : List (List D)} {W : World} (h : TuJ C lo m w st T K v k vss ls W) : ∃ a cap, v = .slice a ls.length cap ∧ At (NewN C lo w.heap.size W) v (.row ls) := by
  have hs : Sub (Mk (fun b => C.O W b ∨ (lo ≤ b ∧ b < w.heap.size) ∨ v.ownBlock = some b) W) (NewN C lo w.heap.size W) :=
    sub_of_blocks (Nat.le_refl _) _ _ fun b _ hp => ⟨fun e => by rcases e with e | e; exact hp (.inl e); exact hp (.inr (.inl e)), rfl⟩
  rcases h.row.2 with ⟨rfl, h0⟩ | ⟨q, cap, cur, rfl, hq, hg, hn, hm, hcs, htk⟩
  · have : ls = [] := List.eq_nil_of_length_eq_zero (h.len.2.trans h0)
    subst this
    exact ⟨none, 0, rfl, .nil none 0 (by decide)⟩
  · have hno : ¬ (C.O W q ∨ (lo ≤ q ∧ q < w.heap.size)) := fun e => by
      rcases e with e | e
      · exact h.no q rfl e
      · omega
    have hgq : (NewN C lo w.heap.size W).heap[q]? = some (.cells cur T (0, 0)) := (mk_get W hno).trans hg
    refine ⟨_, cap, by rw [h.len.2], ?_⟩
    refine .row q 0 k cap K ls (fun j => vss.getD j []) h.len.2 hn hm (heap_lt hgq) (fun j hj => ?_) (fun j ds hd => h.dlen ds (List.mem_of_getElem? hd)) (fun j i u hj hu => ?_) (fun j i ds u d h1 h2 h3 => ?_)
    · have e : vss[j]? = some (vss[j]'(by rw [h.len.1]; exact hj)) := List.getElem?_eq_getElem _
      rw [List.getD_eq_getElem?_getD, e]
      exact h.one _ (List.mem_of_getElem? e)
    · have e : vss[j]? = some (vss[j]'(by rw [h.len.1]; exact hj)) := List.getElem?_eq_getElem _
      rw [List.getD_eq_getElem?_getD, e] at hu
      have hu' : (vss[j]'(by rw [h.len.1]; exact hj))[i]? = some u := hu
      have hiK : i < K := by
        have := (List.getElem?_eq_some_iff.1 hu').1
        rw [h.one _ (List.mem_of_getElem? e)] at this
        exact this
      have hf := flat_at vss j i _ h.one e hiK
      rw [hu', ← htk, List.getElem?_take_of_lt (by have : (j + 1) * K ≤ k * K := Nat.mul_le_mul_right K hj; rw [Nat.add_mul] at this; omega)] at hf
      unfold World.cell?
      simp only [hgq]
      simpa using hf
    · have hj : j < k := by rw [← h.len.2]; exact (List.getElem?_eq_some_iff.1 h1).1
      have e : vss[j]? = some (vss[j]'(by rw [h.len.1]; exact hj)) := List.getElem?_eq_getElem _
      rw [List.getD_eq_getElem?_getD, e] at h2
      exact ((h.dat j _ ds e h1).get i u d h2 h3).sub hs
end
end Go.Proofs.YtciijpahjjoppaaGreat
end
section
namespace Go.Proofs.YtciijpahjjoppaaGreat
open Go.RowKit Go.Deep Go.Shelf
set_option maxRecDepth 100000 in
theorem turnNil_88 (f : Value) (w : World) : Calls Tryz.prog 88 #[.slice none 0 0, f] w fun e w' => e = .returned (.slice none 0 0) ∧ w = w' := by
  have hn := eql_nil Tryz.underlying30 none 0 0
  simp only [Option.isNone_none] at hn
  go_enter Tryz.func88, Tryz.ntmps88
  go_wp2_with fail
  go_ret
  exact ⟨rfl, rfl⟩
set_option maxRecDepth 100000 in
theorem turnNil_90 (f : Value) (w : World) : Calls Tryz.prog 90 #[.slice none 0 0, f] w fun e w' => e = .returned (.slice none 0 0) ∧ w = w' := by
  have hn := eql_nil Tryz.underlying31 none 0 0
  simp only [Option.isNone_none] at hn
  go_enter Tryz.func90, Tryz.ntmps90
  go_wp2_with fail
  go_ret
  exact ⟨rfl, rfl⟩
set_option maxRecDepth 100000 in
theorem turnNil_92 (f : Value) (w : World) : Calls Tryz.prog 92 #[.slice none 0 0, f] w fun e w' => e = .returned (.slice none 0 0) ∧ w = w' := by
  have hn := eql_nil Tryz.underlying32 none 0 0
  simp only [Option.isNone_none] at hn
  go_enter Tryz.func92, Tryz.ntmps92
  go_wp2_with fail
  go_ret
  exact ⟨rfl, rfl⟩
set_option maxRecDepth 100000 in
theorem turnNil_94 (f : Value) (w : World) : Calls Tryz.prog 94 #[.slice none 0 0, f] w fun e w' => e = .returned (.slice none 0 0) ∧ w = w' := by
  have hn := eql_nil Tryz.underlying33 none 0 0
  simp only [Option.isNone_none] at hn
  go_enter Tryz.func94, Tryz.ntmps94
  go_wp2_with fail
  go_ret
  exact ⟨rfl, rfl⟩
set_option maxRecDepth 100000 in
theorem turnNil_123 (f : Value) (w : World) : Calls Tryz.prog 123 #[.slice none 0 0, f] w fun e w' => e = .returned (.slice none 0 0) ∧ w = w' := by
  have hn := eql_nil Tryz.underlying29 none 0 0
  simp only [Option.isNone_none] at hn
  go_enter Tryz.func123, Tryz.ntmps123
  go_wp2_with fail
  go_ret
  exact ⟨rfl, rfl⟩
theorem tnotesNil (g : Nat) (c1 c2 : Value) (w : World) : Calls Tryz.prog 87 #[.agg #[.func (.func g) #[] #[c1, c2]], .slice none 0 0] w fun e w' => e = .returned (.slice none 0 0) ∧ Below w.heap.size w w' := by
  go_enter Tryz.func87, Tryz.ntmps87
  go_wp2_with fail
  refine (turnNil_123 _ _).mono ?_
  rintro e w1 ⟨rfl, rfl⟩
  go_wp2_with fail
  go_ret
  exact ⟨rfl, (Below.refl _ _).alloc (Nat.le_refl _) _⟩
theorem frozen_box {w : World} {n : Nat} {cs : Array Value} {t : TypeId} (h : w.heap[n]? = some (.cells cs t)) : ∀ i, w.frozen? ⟨n, i, none⟩ = false := fun i => by
  unfold World.frozen?
  simp [h]

set_option maxRecDepth 100000 in
set_option maxHeartbeats 4000000 in
theorem turnEmp {σ : Type} {g : Nat} {c1 c2 : Value} (C : Clo σ g c1 c2) (hg : g = 50 ∨ g = 59) (n : Nat) (st : σ) (nm : ByteArray) (w : World) (hI : C.I (n + (parts nm).length) st w) (hs : nm.size ≤ lim) :
    Calls Tryz.prog 51 #[.agg #[.func (.func g) #[] #[c1, c2]], .agg #[.string nm, .slice none 0 0, .slice none 0 0, .slice none 0 0, .slice none 0 0, .slice none 0 0, .slice none 0 0, .slice none 0 0, .slice none 0 0]] w fun e w' => e = .returned (.agg #[.string (C.nm st nm).1, .slice none 0 0, .slice none 0 0, .slice none 0 0, .slice none 0 0, .slice none 0 0, .slice none 0 0, .slice none 0 0, .slice none 0 0]) ∧ C.I n (C.nm st nm).2 w' ∧ Kept C.O C.hi w w' := by
  have J0 := Lib.hid (BxJ.start C (T := 35) (cs := #[.string nm, .slice none 0 0, .slice none 0 0, .slice none 0 0, .slice none 0 0, .slice none 0 0, .slice none 0 0, .slice none 0 0, .slice none 0 0]) (zs := #[.string ⟨#[]⟩, .slice none 0 0, .slice none 0 0, .slice none 0 0, .slice none 0 0, .slice none 0 0, .slice none 0 0, .slice none 0 0, .slice none 0 0]) rfl hI)
  have HG := Lib.hid hg
  clear hI hg
  go_enter Tryz.func51, Tryz.ntmps51
  go_wp2_with fail
  refine (name_any C HG.out n st nm _ J0.out.i hs).mono ?_
  rintro e W1 ⟨rfl, i1, k1⟩
  have J1 := Lib.hid (J0.out.called k1 i1)
  clear i1 k1
  generalize hr : (C.nm st nm).1 = r
  generalize hs2 : (C.nm st nm).2 = s2 at *
  have HRR := Lib.hid hr
  have HS2 := Lib.hid hs2
  clear hr hs2
  have cA1 := box_cells J1.out.bt
  have cB1 : ∀ i, W1.cell? ⟨w.heap.size + 1, i, none⟩ = (#[.string nm, .slice none 0 0, .slice none 0 0, .slice none 0 0, .slice none 0 0, .slice none 0 0, .slice none 0 0, .slice none 0 0, .slice none 0 0] : Array Value)[i]? := box_cells J1.out.bx
  have fB1 := frozen_box J1.out.bx
  go_wp2_with fail
  have J1s : BxJ C n w s2 35 [.string r, .slice none 0 0, .slice none 0 0, .slice none 0 0, .slice none 0 0, .slice none 0 0, .slice none 0 0, .slice none 0 0, .slice none 0 0] (W1.setCell ⟨w.heap.size + 1, 0, none⟩ (.string r)) := J1.out.set 0 (.string r)
  have H1s := Lib.hid J1s
  clear J1s
  refine (tnotesNil g c1 c2 _).mono ?_
  rintro e W2 ⟨rfl, b⟩
  have J2 := Lib.hid (H1s.out.below b)
  clear b cA1 cB1 fB1
  have cA2 := box_cells J2.out.bt
  have cB2 : ∀ i, W2.cell? ⟨w.heap.size + 1, i, none⟩ = (#[.string r, .slice none 0 0, .slice none 0 0, .slice none 0 0, .slice none 0 0, .slice none 0 0, .slice none 0 0, .slice none 0 0, .slice none 0 0] : Array Value)[i]? := box_cells J2.out.bx
  have fB2 := frozen_box J2.out.bx
  go_wp2_with fail
  have J2s : BxJ C n w s2 35 [.string r, .slice none 0 0, .slice none 0 0, .slice none 0 0, .slice none 0 0, .slice none 0 0, .slice none 0 0, .slice none 0 0, .slice none 0 0] (W2.setCell ⟨w.heap.size + 1, 1, none⟩ (.slice none 0 0)) := J2.out.set 1 (.slice none 0 0)
  have H2s := Lib.hid J2s
  clear J2s
  refine (tnotesNil g c1 c2 _).mono ?_
  rintro e W3 ⟨rfl, b⟩
  have J3 := Lib.hid (H2s.out.below b)
  clear b cA2 cB2 fB2
  have cA3 := box_cells J3.out.bt
  have cB3 : ∀ i, W3.cell? ⟨w.heap.size + 1, i, none⟩ = (#[.string r, .slice none 0 0, .slice none 0 0, .slice none 0 0, .slice none 0 0, .slice none 0 0, .slice none 0 0, .slice none 0 0, .slice none 0 0] : Array Value)[i]? := box_cells J3.out.bx
  have fB3 := frozen_box J3.out.bx
  go_wp2_with fail
  have J3s : BxJ C n w s2 35 [.string r, .slice none 0 0, .slice none 0 0, .slice none 0 0, .slice none 0 0, .slice none 0 0, .slice none 0 0, .slice none 0 0, .slice none 0 0] (W3.setCell ⟨w.heap.size + 1, 2, none⟩ (.slice none 0 0)) := J3.out.set 2 (.slice none 0 0)
  have H3s := Lib.hid J3s
  clear J3s
  refine (tnotesNil g c1 c2 _).mono ?_
  rintro e W4 ⟨rfl, b⟩
  have J4 := Lib.hid (H3s.out.below b)
  clear b cA3 cB3 fB3
  have cA4 := box_cells J4.out.bt
  have cB4 : ∀ i, W4.cell? ⟨w.heap.size + 1, i, none⟩ = (#[.string r, .slice none 0 0, .slice none 0 0, .slice none 0 0, .slice none 0 0, .slice none 0 0, .slice none 0 0, .slice none 0 0, .slice none 0 0] : Array Value)[i]? := box_cells J4.out.bx
  have fB4 := frozen_box J4.out.bx
  go_wp2_with fail
  have J4s : BxJ C n w s2 35 [.string r, .slice none 0 0, .slice none 0 0, .slice none 0 0, .slice none 0 0, .slice none 0 0, .slice none 0 0, .slice none 0 0, .slice none 0 0] (W4.setCell ⟨w.heap.size + 1, 3, none⟩ (.slice none 0 0)) := J4.out.set 3 (.slice none 0 0)
  have H4s := Lib.hid J4s
  clear J4s
  refine (turnNil_88 _ _).mono ?_
  rintro e W5 ⟨rfl, hw⟩
  have J5 : Hid (BxJ C n w s2 35 [.string r, .slice none 0 0, .slice none 0 0, .slice none 0 0, .slice none 0 0, .slice none 0 0, .slice none 0 0, .slice none 0 0, .slice none 0 0] W5) := by rw [← hw]; exact H4s.out
  clear hw cA4 cB4 fB4
  have cA5 := box_cells J5.out.bt
  have cB5 : ∀ i, W5.cell? ⟨w.heap.size + 1, i, none⟩ = (#[.string r, .slice none 0 0, .slice none 0 0, .slice none 0 0, .slice none 0 0, .slice none 0 0, .slice none 0 0, .slice none 0 0, .slice none 0 0] : Array Value)[i]? := box_cells J5.out.bx
  have fB5 := frozen_box J5.out.bx
  go_wp2_with fail
  have J5s : BxJ C n w s2 35 [.string r, .slice none 0 0, .slice none 0 0, .slice none 0 0, .slice none 0 0, .slice none 0 0, .slice none 0 0, .slice none 0 0, .slice none 0 0] (W5.setCell ⟨w.heap.size + 1, 4, none⟩ (.slice none 0 0)) := J5.out.set 4 (.slice none 0 0)
  have H5s := Lib.hid J5s
  clear J5s
  refine (turnNil_90 _ _).mono ?_
  rintro e W6 ⟨rfl, hw⟩
  have J6 : Hid (BxJ C n w s2 35 [.string r, .slice none 0 0, .slice none 0 0, .slice none 0 0, .slice none 0 0, .slice none 0 0, .slice none 0 0, .slice none 0 0, .slice none 0 0] W6) := by rw [← hw]; exact H5s.out
  clear hw cA5 cB5 fB5
  have cA6 := box_cells J6.out.bt
  have cB6 : ∀ i, W6.cell? ⟨w.heap.size + 1, i, none⟩ = (#[.string r, .slice none 0 0, .slice none 0 0, .slice none 0 0, .slice none 0 0, .slice none 0 0, .slice none 0 0, .slice none 0 0, .slice none 0 0] : Array Value)[i]? := box_cells J6.out.bx
  have fB6 := frozen_box J6.out.bx
  go_wp2_with fail
  have J6s : BxJ C n w s2 35 [.string r, .slice none 0 0, .slice none 0 0, .slice none 0 0, .slice none 0 0, .slice none 0 0, .slice none 0 0, .slice none 0 0, .slice none 0 0] (W6.setCell ⟨w.heap.size + 1, 5, none⟩ (.slice none 0 0)) := J6.out.set 5 (.slice none 0 0)
  have H6s := Lib.hid J6s
  clear J6s
  refine (turnNil_92 _ _).mono ?_
  rintro e W7 ⟨rfl, hw⟩
  have J7 : Hid (BxJ C n w s2 35 [.string r, .slice none 0 0, .slice none 0 0, .slice none 0 0, .slice none 0 0, .slice none 0 0, .slice none 0 0, .slice none 0 0, .slice none 0 0] W7) := by rw [← hw]; exact H6s.out
  clear hw cA6 cB6 fB6
  have cA7 := box_cells J7.out.bt
  have cB7 : ∀ i, W7.cell? ⟨w.heap.size + 1, i, none⟩ = (#[.string r, .slice none 0 0, .slice none 0 0, .slice none 0 0, .slice none 0 0, .slice none 0 0, .slice none 0 0, .slice none 0 0, .slice none 0 0] : Array Value)[i]? := box_cells J7.out.bx
  have fB7 := frozen_box J7.out.bx
  go_wp2_with fail
  have J7s : BxJ C n w s2 35 [.string r, .slice none 0 0, .slice none 0 0, .slice none 0 0, .slice none 0 0, .slice none 0 0, .slice none 0 0, .slice none 0 0, .slice none 0 0] (W7.setCell ⟨w.heap.size + 1, 6, none⟩ (.slice none 0 0)) := J7.out.set 6 (.slice none 0 0)
  have H7s := Lib.hid J7s
  clear J7s
  refine (turnNil_94 _ _).mono ?_
  rintro e W8 ⟨rfl, hw⟩
  have J8 : Hid (BxJ C n w s2 35 [.string r, .slice none 0 0, .slice none 0 0, .slice none 0 0, .slice none 0 0, .slice none 0 0, .slice none 0 0, .slice none 0 0, .slice none 0 0] W8) := by rw [← hw]; exact H7s.out
  clear hw cA7 cB7 fB7
  have cA8 := box_cells J8.out.bt
  have cB8 : ∀ i, W8.cell? ⟨w.heap.size + 1, i, none⟩ = (#[.string r, .slice none 0 0, .slice none 0 0, .slice none 0 0, .slice none 0 0, .slice none 0 0, .slice none 0 0, .slice none 0 0, .slice none 0 0] : Array Value)[i]? := box_cells J8.out.bx
  have fB8 := frozen_box J8.out.bx
  go_wp2_with fail
  have J8s : BxJ C n w s2 35 [.string r, .slice none 0 0, .slice none 0 0, .slice none 0 0, .slice none 0 0, .slice none 0 0, .slice none 0 0, .slice none 0 0, .slice none 0 0] (W8.setCell ⟨w.heap.size + 1, 7, none⟩ (.slice none 0 0)) := J8.out.set 7 (.slice none 0 0)
  have H8s := Lib.hid J8s
  clear J8s
  refine (tnotesNil g c1 c2 _).mono ?_
  rintro e W9 ⟨rfl, b⟩
  have J9 := Lib.hid (H8s.out.below b)
  clear b cA8 cB8 fB8
  have cA9 := box_cells J9.out.bt
  have cB9 : ∀ i, W9.cell? ⟨w.heap.size + 1, i, none⟩ = (#[.string r, .slice none 0 0, .slice none 0 0, .slice none 0 0, .slice none 0 0, .slice none 0 0, .slice none 0 0, .slice none 0 0, .slice none 0 0] : Array Value)[i]? := box_cells J9.out.bx
  have fB9 := frozen_box J9.out.bx
  have JL : BxJ C n w s2 35 [.string r, .slice none 0 0, .slice none 0 0, .slice none 0 0, .slice none 0 0, .slice none 0 0, .slice none 0 0, .slice none 0 0, .slice none 0 0] (W9.setCell ⟨w.heap.size + 1, 8, none⟩ (.slice none 0 0)) := J9.out.set 8 (.slice none 0 0)
  have HL := Lib.hid JL
  have CL := Lib.hid (show ∀ (i : Nat) (v : Value), ([.string r, .slice none 0 0, .slice none 0 0, .slice none 0 0, .slice none 0 0, .slice none 0 0, .slice none 0 0, .slice none 0 0, .slice none 0 0] : List Value)[i]? = some v → (W9.setCell ⟨w.heap.size + 1, 8, none⟩ (.slice none 0 0)).cell? ⟨w.heap.size + 1, 0 + i, none⟩ = some v from fun i v hv => by rw [box_cells JL.bx, Nat.zero_add]; simpa using hv)
  obtain ⟨zs, z1, z2⟩ := JL.br
  have Z1 := Lib.hid (show zs.length = 9 from z1)
  have LN := Lib.hid (show ([.string r, .slice none 0 0, .slice none 0 0, .slice none 0 0, .slice none 0 0, .slice none 0 0, .slice none 0 0, .slice none 0 0, .slice none 0 0] : List Value).length = 9 from rfl)
  have ON := Lib.hid (show ∀ v ∈ ([.string r, .slice none 0 0, .slice none 0 0, .slice none 0 0, .slice none 0 0, .slice none 0 0, .slice none 0 0, .slice none 0 0, .slice none 0 0] : List Value), v.oneCell' = true by intro v hv; simp at hv; rcases hv with rfl | rfl <;> rfl)
  have Z2 := Lib.hid z2
  clear JL z1 z2
  go_wp2_with (first
    | ((with_reducible refine wp_loadAgg (o := ⟨some 54, _, _, _, _, _⟩) rfl (.tmp 3) 35 rfl 9 Tryz.isAgg35 Tryz.sizeOf35 (w.heap.size + 1) 0 ?_ [.string r, .slice none 0 0, .slice none 0 0, .slice none 0 0, .slice none 0 0, .slice none 0 0, .slice none 0 0, .slice none 0 0, .slice none 0 0] LN.out CL.out ?_); rfl)
    | ((with_reducible refine wp_storeOld (o := ⟨none, .store 35 (.tmp 4) (.tmp 54), _, _, _, _⟩) rfl (.tmp 4) (.tmp 54) 35 rfl 9 Tryz.sizeOf35 (w.heap.size + 2) zs Z1.out 35 Z2.out ?_ [.string r, .slice none 0 0, .slice none 0 0, .slice none 0 0, .slice none 0 0, .slice none 0 0, .slice none 0 0, .slice none 0 0, .slice none 0 0] ?_ LN.out ON.out ?_); rfl; rfl))
  refine bodyPost_ret (v := .agg ⟨[.string r, .slice none 0 0, .slice none 0 0, .slice none 0 0, .slice none 0 0, .slice none 0 0, .slice none 0 0, .slice none 0 0, .slice none 0 0]⟩) ?_ rfl ?_
  · exact results_cell (i := 4) (b := w.heap.size + 2) Tryz.results51 Tryz.isAgg35 Tryz.sizeOf35 rfl rfl HL.out.last.1
  · exact ⟨by rw [HRR.out], by rw [HS2.out]; exact HL.out.last.2.1, HL.out.last.2.2⟩
end Go.Proofs.YtciijpahjjoppaaGreat
end
section
namespace Go.Proofs.YtciijpahjjoppaaGreat
open Go.RowKit Go.Deep Go.Shelf Go.Maps

theorem Kept.toBelow {O : World → Nat → Prop} {hi n : Nat} {w w' W : World} (h : Kept O hi w w') (b : Below n W w) (hn : n ≤ W.heap.size) (hO : ∀ c, c < n → ¬ O w c) : Below n W w' :=
  ⟨h.os.trans b.os, h.tape.trans b.tape, h.output.trans b.output, Nat.le_trans b.size h.size, fun c hc => (h.block c (Nat.lt_of_lt_of_le (by omega) b.size) (hO c hc)).trans (b.block c hc)⟩
theorem namesW0 (w : World) (A : Obj) (F : Array Value) (n : Nat) (hn : n ≤ 3000000) : NamesI (w.heap.size + 1) n [] (((((w.alloc A).alloc (.cells #[.slice none 0 0] 29)).alloc (.map #[] 0)).alloc (.cells #[.map (some (w.heap.size + 1 + 1))] 92)).alloc (.cells F 97)) := by
  obtain ⟨w1, e1⟩ : ∃ w1, w1 = w.alloc A := ⟨_, rfl⟩
  obtain ⟨w2, e2⟩ : ∃ w2, w2 = w1.alloc (.cells #[.slice none 0 0] 29) := ⟨_, rfl⟩
  obtain ⟨w3, e3⟩ : ∃ w3, w3 = w2.alloc (.map #[] 0) := ⟨_, rfl⟩
  obtain ⟨w4, e4⟩ : ∃ w4, w4 = w3.alloc (.cells #[.map (some (w.heap.size + 1 + 1))] 92) := ⟨_, rfl⟩
  obtain ⟨w5, e5⟩ : ∃ w5, w5 = w4.alloc (.cells F 97) := ⟨_, rfl⟩
  rw [← e1, ← e2, ← e3, ← e4, ← e5]
  have z1 : w1.heap.size = w.heap.size + 1 := by rw [e1, World.size_alloc]
  have z2 : w2.heap.size = w.heap.size + 2 := by rw [e2, World.size_alloc, z1]
  have z3 : w3.heap.size = w.heap.size + 3 := by rw [e3, World.size_alloc, z2]
  have z4 : w4.heap.size = w.heap.size + 4 := by rw [e4, World.size_alloc, z3]
  have z5 : w5.heap.size = w.heap.size + 5 := by rw [e5, World.size_alloc, z4]
  have b3 : Below w2.heap.size w2 w3 := by rw [e3]; exact (Below.refl _ _).alloc (Nat.le_refl _) _
  have b4 : Below w3.heap.size w3 w4 := by rw [e4]; exact (Below.refl _ _).alloc (Nat.le_refl _) _
  have b5 : Below w4.heap.size w4 w5 := by rw [e5]; exact (Below.refl _ _).alloc (Nat.le_refl _) _
  have h2 : w2.heap[w.heap.size + 1]? = some (.cells #[.slice none 0 0] 29) := by rw [e2, ← z1]; exact heap_new _ _
  have h4 : w4.heap[w.heap.size + 3]? = some (.cells #[.map (some (w.heap.size + 1 + 1))] 92) := by rw [e4, ← z3]; exact heap_new _ _
  have hm : w3.ownsMap Tryz.prog 9 (unitElem (H := Unit)) (w.heap.size + 2) 0 (.map []) := by rw [e3, ← z2]; exact World.ownsMap_made _ _ _ _
  refine ⟨by omega, by simpa using hn, by simp, ownsMap_same hm ((b5.block _ (by omega)).trans (b4.block _ (by omega))), (b5.block _ (by omega)).trans h4, .slice none 0 0, ?_, World.ownsRow_nil _ _ _ _⟩
  exact ((b5.block _ (by omega)).trans ((b4.block _ (by omega)).trans (b3.block _ (by omega)))).trans h2
theorem below5 (w : World) (A B C D E : Obj) : Below w.heap.size w (((((w.alloc A).alloc B).alloc C).alloc D).alloc E) :=
  (((((Below.refl _ w).alloc (Nat.le_refl _) A).alloc (by simp) B).alloc (by simp; omega) C).alloc (by simp; omega) D).alloc (by simp; omega) E
theorem ownS_mono {b b' : Nat} {w : World} {v : Value} {ss : List ByteArray} (h : w.ownsRow b 9 1 v ss.length (ss.map Value.string)) (hb : b' ≤ b) : OwnS b' w v ss := by
  refine ⟨h.1, ?_⟩
  rcases h.2 with h4 | ⟨g, cap, cur, hv, hb', r⟩
  · exact .inl h4
  · exact .inr ⟨g, cap, cur, hv, Nat.le_trans hb hb', r⟩
/-- What Names leaves. -/
def NamPost (ns : List ByteArray) (w : World) (e : Ending) (w' : World) : Prop := ∃ v, e = .returned v ∧ OwnS w.heap.size w' v ns ∧ Below w.heap.size w w'
set_option maxRecDepth 100000 in
set_option maxHeartbeats 4000000 in
theorem namesEmp (nm : ByteArray) (w : World) (hs : nm.size ≤ lim) (hpl : (parts nm).length ≤ 3000000) : Calls Tryz.prog 19 #[.agg #[.string nm, .slice none 0 0, .slice none 0 0, .slice none 0 0, .slice none 0 0, .slice none 0 0, .slice none 0 0, .slice none 0 0, .slice none 0 0]] w (NamPost ((namClo (w.heap.size + 1)).nm [] nm).2 w) := by
  have hmm := @run_makeMap Tryz.prog
  go_enter Tryz.func19, Tryz.ntmps19
  have LN := Lib.hid (show ([.func (.func 50) #[] #[.pointer (some ⟨w.heap.size + 1 + 1 + 1, 0, none⟩), .pointer (some ⟨w.heap.size + 1, 0, none⟩)]] : List Value).length = 1 from rfl)
  have ON := Lib.hid (show ∀ v ∈ ([.func (.func 50) #[] #[.pointer (some ⟨w.heap.size + 1 + 1 + 1, 0, none⟩), .pointer (some ⟨w.heap.size + 1, 0, none⟩)]] : List Value), v.oneCell' = true by intro v hv; simp at hv; subst hv; rfl)
  go_wp2_with (first
    | ((with_reducible refine wp_storeNew (o := ⟨none, .store 97 (.tmp 5) (.tmp 8), _, _, _, _⟩) rfl (.tmp 5) (.tmp 8) 97 rfl 1 Tryz.sizeOf97 _ ?_ ?_ [.func (.func 50) #[] #[.pointer (some ⟨w.heap.size + 1 + 1 + 1, 0, none⟩), .pointer (some ⟨w.heap.size + 1, 0, none⟩)]] ?_ LN.out ON.out ?_); rfl; (simp only [World.size_alloc]; rfl); rfl))
  have I0 := Lib.hid (namesW0 w (.cells #[.string nm, .slice none 0 0, .slice none 0 0, .slice none 0 0, .slice none 0 0, .slice none 0 0, .slice none 0 0, .slice none 0 0, .slice none 0 0] 35) #[.func (.func 50) #[] #[.pointer (some ⟨w.heap.size + 1 + 1 + 1, 0, none⟩), .pointer (some ⟨w.heap.size + 1, 0, none⟩)]] (0 + (parts nm).length) (by omega))
  have B0 := Lib.hid (below5 w (.cells #[.string nm, .slice none 0 0, .slice none 0 0, .slice none 0 0, .slice none 0 0, .slice none 0 0, .slice none 0 0, .slice none 0 0, .slice none 0 0] 35) (.cells #[.slice none 0 0] 29) (.map #[] 0) (.cells #[.map (some (w.heap.size + 1 + 1))] 92) (.cells #[.func (.func 50) #[] #[.pointer (some ⟨w.heap.size + 1 + 1 + 1, 0, none⟩), .pointer (some ⟨w.heap.size + 1, 0, none⟩)]] 97))
  refine (turnEmp (namClo (w.heap.size + 1)) (.inl rfl) 0 [] nm _ I0.out hs).mono ?_
  rintro e W1 ⟨rfl, i1, k1⟩
  have B1 := Lib.hid (k1.toBelow B0.out (Nat.le_refl _) (fun c hc ho => by have := ((namClo (w.heap.size + 1)).ltO I0.out ho).1; have : w.heap.size + 1 ≤ c := this; omega))
  have I1 : NamesI (w.heap.size + 1) 0 ((namClo (w.heap.size + 1)).nm [] nm).2 W1 := i1
  obtain ⟨v, hv, hr⟩ := I1.row
  have HR := Lib.hid hr
  have cv := hv.cell
  clear I1 i1 k1 hr hv
  go_wp2_with fail
  go_ret
  exact ⟨v, rfl, ownS_mono HR.out (by omega), B1.out⟩

def renPart (ps : List (ByteArray × ByteArray)) (x : ByteArray) : ByteArray := if x.size = 0 then x else renOf ps x
def renName (ps : List (ByteArray × ByteArray)) (s : ByteArray) : ByteArray := joinD ((parts s).map (renPart ps))
theorem ren_pts (r : RenB) (l : List ByteArray) : (renClo r).pts () l = (l.map (renPart r.ps), ()) := by
  induction l with
  | nil => rfl
  | cons x l ih =>
    show (((renClo r).pt () x).1 :: ((renClo r).pts () l).1, ()) = _
    rw [ih]
    have : ((renClo r).pt () x).1 = renPart r.ps x := by
      unfold Clo.pt renPart
      split <;> rfl
    rw [this]
    rfl
theorem ren_nm (r : RenB) (s : ByteArray) : (renClo r).nm () s = (renName r.ps s, ()) := by
  unfold Clo.nm renName
  rw [ren_pts]
theorem renW0 (w w3 : World) (a : Option Addr) (len cap : Nat) (ps : List (ByteArray × ByteArray)) (F : Array Value) (hP : PairsAt w a len cap ps) (hl : w.heap.size + 4 ≤ w3.heap.size) (hb : ∀ b, b < w.heap.size → w3.heap[b]? = w.heap[b]?) (h1 : w3.heap[w.heap.size + 1]? = some (.cells #[.slice a len cap] 44)) (hm : ∃ D n, MapAt w3 (w.heap.size + 3) n D ∧ FirstD D ps) :
    RenI ⟨w.heap.size + 1, w.heap.size + 3, w3.heap.size, w.heap.size + 1, w3.heap.size + 2, a, len, cap, ps⟩ ((w3.alloc (.cells #[.map (some (w.heap.size + 3))] 106)).alloc (.cells F 97)) := by
  have b2 := ((Below.refl w3.heap.size w3).alloc (Nat.le_refl _) (.cells #[.map (some (w.heap.size + 3))] 106)).alloc (by simp) (.cells F 97)
  obtain ⟨D, n, hm1, hm2⟩ := hm
  refine ⟨⟨Nat.le_refl _, ?_⟩, ⟨?_, ?_⟩, ⟨?_, ?_⟩, ?_, (b2.block (w.heap.size + 1) (by omega)).trans h1, box_first w3 _ _, ⟨D, n, ownsMap_same hm1 (b2.block (w.heap.size + 3) (by omega)), hm2⟩, ?_, ?_⟩
  · show w.heap.size + 1 < w3.heap.size + 2; omega
  · show w.heap.size + 1 ≤ w.heap.size + 3; omega
  · show w.heap.size + 3 < w3.heap.size + 2; omega
  · show w.heap.size + 1 ≤ w3.heap.size; omega
  · show w3.heap.size < w3.heap.size + 2; omega
  · show w3.heap.size + 2 ≤ _; simp
  · exact hP.kept (by have := b2.size; omega) fun b hb' => (b2.block b (by omega)).trans (hb b hb')
  · intro b o e h0
    show b < w.heap.size + 1
    have e' : a = some ⟨b, o, none⟩ := e
    have h0' : 0 < len := h0
    rcases hP.2.2.2.2 with h | ⟨b', o', e2, hb', _⟩
    · omega
    · rw [e'] at e2
      cases e2
      omega
set_option maxRecDepth 100000 in
set_option maxHeartbeats 4000000 in
theorem renameEmp (nm : ByteArray) (a : Option Addr) (len cap : Nat) (ps : List (ByteArray × ByteArray)) (w : World) (hs : nm.size ≤ lim) (hP : PairsAt w a len cap ps) : Calls Tryz.prog 22 #[.agg #[.string nm, .slice none 0 0, .slice none 0 0, .slice none 0 0, .slice none 0 0, .slice none 0 0, .slice none 0 0, .slice none 0 0, .slice none 0 0], .slice a len cap] w fun e w' => e = .returned (.agg #[.string (renName ps nm), .slice none 0 0, .slice none 0 0, .slice none 0 0, .slice none 0 0, .slice none 0 0, .slice none 0 0, .slice none 0 0, .slice none 0 0]) ∧ Below w.heap.size w w' := by
  have HP := Lib.hid hP
  clear hP
  obtain ⟨w0, hw0⟩ : ∃ w0, w0 = ((w.alloc (.cells #[.string nm, .slice none 0 0, .slice none 0 0, .slice none 0 0, .slice none 0 0, .slice none 0 0, .slice none 0 0, .slice none 0 0, .slice none 0 0] 35)).alloc (.cells #[.slice a len cap] 44)).alloc (.cells #[.string ⟨#[]⟩, .slice none 0 0, .slice none 0 0, .slice none 0 0, .slice none 0 0, .slice none 0 0, .slice none 0 0, .slice none 0 0, .slice none 0 0] 35) := ⟨_, rfl⟩
  have B0 : Below w.heap.size w w0 := by rw [hw0]; exact (((Below.refl _ w).alloc (Nat.le_refl _) _).alloc (by simp) _).alloc (by simp; omega) _
  have z0 : w0.heap.size = w.heap.size + 3 := by rw [hw0]; simp
  have a3 := (Below.refl ((w.alloc (.cells #[.string nm, .slice none 0 0, .slice none 0 0, .slice none 0 0, .slice none 0 0, .slice none 0 0, .slice none 0 0, .slice none 0 0, .slice none 0 0] 35)).alloc (.cells #[.slice a len cap] 44)).heap.size ((w.alloc (.cells #[.string nm, .slice none 0 0, .slice none 0 0, .slice none 0 0, .slice none 0 0, .slice none 0 0, .slice none 0 0, .slice none 0 0, .slice none 0 0] 35)).alloc (.cells #[.slice a len cap] 44))).alloc (Nat.le_refl _) (.cells #[.string ⟨#[]⟩, .slice none 0 0, .slice none 0 0, .slice none 0 0, .slice none 0 0, .slice none 0 0, .slice none 0 0, .slice none 0 0, .slice none 0 0] 35)
  have k0 : w0.heap[w.heap.size]? = some (.cells #[.string nm, .slice none 0 0, .slice none 0 0, .slice none 0 0, .slice none 0 0, .slice none 0 0, .slice none 0 0, .slice none 0 0, .slice none 0 0] 35) := by rw [hw0]; exact (a3.block _ (by simp; omega)).trans (box_first w _ _)
  have k1 : w0.heap[w.heap.size + 1]? = some (.cells #[.slice a len cap] 44) := by rw [hw0]; exact (a3.block _ (by simp)).trans (box_second w _ _)
  have k2 : w0.heap[w.heap.size + 2]? = some (.cells #[.string ⟨#[]⟩, .slice none 0 0, .slice none 0 0, .slice none 0 0, .slice none 0 0, .slice none 0 0, .slice none 0 0, .slice none 0 0, .slice none 0 0] 35) := by
    have := heap_new ((w.alloc (.cells #[.string nm, .slice none 0 0, .slice none 0 0, .slice none 0 0, .slice none 0 0, .slice none 0 0, .slice none 0 0, .slice none 0 0, .slice none 0 0] 35)).alloc (.cells #[.slice a len cap] 44)) (.cells #[.string ⟨#[]⟩, .slice none 0 0, .slice none 0 0, .slice none 0 0, .slice none 0 0, .slice none 0 0, .slice none 0 0, .slice none 0 0, .slice none 0 0] 35)
    simp only [World.size_alloc] at this
    rw [hw0]
    exact this
  have HB0 := Lib.hid B0
  have Z0 := Lib.hid z0
  have K0 := Lib.hid k0
  have K1 := Lib.hid k1
  have K2 := Lib.hid k2
  have HW0 := Lib.hid hw0
  clear B0 z0 k0 k1 k2 a3 hw0
  go_enter Tryz.func22, Tryz.ntmps22
  go_wp2_with fail
  rw [← HW0.out]
  refine (firstOf_any a len cap ps w0 (HP.out.kept HB0.out.size fun b hb => HB0.out.block b hb)).mono ?_
  rw [Z0.out]
  rintro e w3 ⟨rfl, hm, b3⟩
  have S3 : w.heap.size + 4 ≤ w3.heap.size := by
    obtain ⟨D, n, h1, _⟩ := hm
    have hlt : w.heap.size + 3 < w3.heap.size := by
      have h1' : w3.ownsMap Tryz.prog 9 (plainElem Tryz.prog 3) (w.heap.size + 3) n D := h1
      unfold World.ownsMap at h1'
      obtain ⟨es, c, h2, _⟩ := h1'
      exact heap_lt h2
    omega
  have kp : w3.heap[w.heap.size]? = some (.cells #[.string nm, .slice none 0 0, .slice none 0 0, .slice none 0 0, .slice none 0 0, .slice none 0 0, .slice none 0 0, .slice none 0 0, .slice none 0 0] 35) := (b3.block _ (by omega)).trans K0.out
  have B3 := Lib.hid (show Below w.heap.size w w3 from HB0.out.trans (b3.mono (by omega)))
  have K13 := Lib.hid ((b3.block _ (show w.heap.size + 1 < w.heap.size + 3 by omega)).trans K1.out)
  have K23 := Lib.hid ((b3.block _ (show w.heap.size + 2 < w.heap.size + 3 by omega)).trans K2.out)
  have HM := Lib.hid hm
  have cp := box_cells kp
  have KP := Lib.hid kp
  clear hm b3 kp
  have LN := Lib.hid (show ([.func (.func 59) #[] #[.pointer (some ⟨w3.heap.size, 0, none⟩), .pointer (some ⟨w.heap.size + 1, 0, none⟩)]] : List Value).length = 1 from rfl)
  have ON := Lib.hid (show ∀ v ∈ ([.func (.func 59) #[] #[.pointer (some ⟨w3.heap.size, 0, none⟩), .pointer (some ⟨w.heap.size + 1, 0, none⟩)]] : List Value), v.oneCell' = true by intro v hv; simp at hv; subst hv; rfl)
  have b5 := ((Below.refl w3.heap.size w3).alloc (Nat.le_refl _) (.cells #[.map (some (w.heap.size + 3))] 106)).alloc (by simp) (.cells #[.func (.func 59) #[] #[.pointer (some ⟨w3.heap.size, 0, none⟩), .pointer (some ⟨w.heap.size + 1, 0, none⟩)]] 97)
  have C5 := Lib.hid (show ∀ (j : Nat) (v : Value), ([.string nm, .slice none 0 0, .slice none 0 0, .slice none 0 0, .slice none 0 0, .slice none 0 0, .slice none 0 0, .slice none 0 0, .slice none 0 0] : List Value)[j]? = some v → ((w3.alloc (.cells #[.map (some (w.heap.size + 3))] 106)).alloc (.cells #[.func (.func 59) #[] #[.pointer (some ⟨w3.heap.size, 0, none⟩), .pointer (some ⟨w.heap.size + 1, 0, none⟩)]] 97)).cell? ⟨w.heap.size, 0 + j, none⟩ = some v from fun j v hv => by
    rw [box_cells ((b5.block _ (heap_lt KP.out)).trans KP.out), Nat.zero_add]
    simpa using hv)
  have L9 := Lib.hid (show ([.string nm, .slice none 0 0, .slice none 0 0, .slice none 0 0, .slice none 0 0, .slice none 0 0, .slice none 0 0, .slice none 0 0, .slice none 0 0] : List Value).length = 9 from rfl)
  have I5 := Lib.hid (renW0 w w3 a len cap ps #[.func (.func 59) #[] #[.pointer (some ⟨w3.heap.size, 0, none⟩), .pointer (some ⟨w.heap.size + 1, 0, none⟩)]] HP.out S3 (fun b hb => B3.out.block b hb) K13.out HM.out)
  have B5 := Lib.hid (B3.out.trans (b5.mono B3.out.size))
  have K25 := Lib.hid ((b5.block _ (heap_lt K23.out)).trans K23.out)
  clear b5
  go_wp2_with (first
    | ((with_reducible refine wp_storeNew (o := ⟨none, .store 97 (.tmp 6) (.tmp 10), _, _, _, _⟩) rfl (.tmp 6) (.tmp 10) 97 rfl 1 Tryz.sizeOf97 _ ?_ ?_ [.func (.func 59) #[] #[.pointer (some ⟨w3.heap.size, 0, none⟩), .pointer (some ⟨w.heap.size + 1, 0, none⟩)]] ?_ LN.out ON.out ?_); rfl; (simp only [World.size_alloc]; rfl); rfl)
    | ((with_reducible refine wp_loadAgg (o := ⟨some 12, _, _, _, _, _⟩) rfl (.tmp 2) 35 rfl 9 Tryz.isAgg35 Tryz.sizeOf35 w.heap.size 0 ?_ [.string nm, .slice none 0 0, .slice none 0 0, .slice none 0 0, .slice none 0 0, .slice none 0 0, .slice none 0 0, .slice none 0 0, .slice none 0 0] L9.out C5.out ?_); rfl))
  refine (turnEmp (renClo ⟨w.heap.size + 1, w.heap.size + 3, w3.heap.size, w.heap.size + 1, w3.heap.size + 2, a, len, cap, ps⟩) (.inr rfl) 0 () nm _ I5.out hs).mono ?_
  rw [ren_nm]
  rintro e W6 ⟨rfl, _, k6⟩
  have hnO : ∀ c, c < w.heap.size ∨ c = w.heap.size + 2 → ¬ RenO ⟨w.heap.size + 1, w.heap.size + 3, w3.heap.size, w.heap.size + 1, w3.heap.size + 2, a, len, cap, ps⟩ ((w3.alloc (.cells #[.map (some (w.heap.size + 3))] 106)).alloc (.cells #[.func (.func 59) #[] #[.pointer (some ⟨w3.heap.size, 0, none⟩), .pointer (some ⟨w.heap.size + 1, 0, none⟩)]] 97)) c := fun c hc ho => by
    have ho' : c = w.heap.size + 1 ∨ c = w.heap.size + 3 ∨ c = w3.heap.size := ho
    omega
  have B6 := Lib.hid (k6.toBelow B5.out (Nat.le_refl _) (fun c hc => hnO c (.inl hc)))
  have K26 := Lib.hid ((k6.block (w.heap.size + 2) (heap_lt K25.out) (hnO _ (.inr rfl))).trans K25.out)
  clear hnO k6 cp
  have LZ := Lib.hid (show ([.string ⟨#[]⟩, .slice none 0 0, .slice none 0 0, .slice none 0 0, .slice none 0 0, .slice none 0 0, .slice none 0 0, .slice none 0 0, .slice none 0 0] : List Value).length = 9 from rfl)
  have LR := Lib.hid (show ([.string (renName ps nm), .slice none 0 0, .slice none 0 0, .slice none 0 0, .slice none 0 0, .slice none 0 0, .slice none 0 0, .slice none 0 0, .slice none 0 0] : List Value).length = 9 from rfl)
  have OR := Lib.hid (show ∀ v ∈ ([.string (renName ps nm), .slice none 0 0, .slice none 0 0, .slice none 0 0, .slice none 0 0, .slice none 0 0, .slice none 0 0, .slice none 0 0, .slice none 0 0] : List Value), v.oneCell' = true by intro v hv; simp at hv; rcases hv with rfl | rfl <;> rfl)
  go_wp2_with (first
    | ((with_reducible refine wp_storeOld (o := ⟨none, .store 35 (.tmp 4) (.tmp 13), _, _, _, _⟩) rfl (.tmp 4) (.tmp 13) 35 rfl 9 Tryz.sizeOf35 (w.heap.size + 2) [.string ⟨#[]⟩, .slice none 0 0, .slice none 0 0, .slice none 0 0, .slice none 0 0, .slice none 0 0, .slice none 0 0, .slice none 0 0, .slice none 0 0] LZ.out 35 K26.out ?_ [.string (renName ps nm), .slice none 0 0, .slice none 0 0, .slice none 0 0, .slice none 0 0, .slice none 0 0, .slice none 0 0, .slice none 0 0, .slice none 0 0] ?_ LR.out OR.out ?_); rfl; rfl))
  refine bodyPost_ret (v := .agg ⟨[.string (renName ps nm), .slice none 0 0, .slice none 0 0, .slice none 0 0, .slice none 0 0, .slice none 0 0, .slice none 0 0, .slice none 0 0, .slice none 0 0]⟩) ?_ rfl ?_
  · exact results_cell (i := 4) (b := w.heap.size + 2) Tryz.results22 Tryz.isAgg35 Tryz.sizeOf35 rfl rfl (setCells_heap [.string (renName ps nm), .slice none 0 0, .slice none 0 0, .slice none 0 0, .slice none 0 0, .slice none 0 0, .slice none 0 0, .slice none 0 0, .slice none 0 0] [] [.string ⟨#[]⟩, .slice none 0 0, .slice none 0 0, .slice none 0 0, .slice none 0 0, .slice none 0 0, .slice none 0 0, .slice none 0 0, .slice none 0 0] W6 _ K26.out rfl)
  · refine ⟨rfl, ?_⟩
    have ho := setCells_os [.string (renName ps nm), .slice none 0 0, .slice none 0 0, .slice none 0 0, .slice none 0 0, .slice none 0 0, .slice none 0 0, .slice none 0 0, .slice none 0 0] W6 (w.heap.size + 2) 0
    exact ⟨ho.1.trans B6.out.os, ho.2.1.trans B6.out.tape, ho.2.2.trans B6.out.output, by rw [setCells_size]; exact B6.out.size, fun k hk => (setCells_other _ W6 _ 0 k (by omega)).trans (B6.out.block k hk)⟩
end Go.Proofs.YtciijpahjjoppaaGreat
end
section
namespace Go.Proofs.YtciijpahjjoppaaGreat
open Go.RowKit Go.Shelf Go.Deep
section
variable {σ : Type} {g : Nat} {c1 c2 : Value}
def TPost (C : Clo σ g c1 c2) (lo n : Nat) (w : World) (x' : List D) (s' : σ) (e : Ending) (w' : World) : Prop := ∃ vs', e = .returned (.agg ⟨vs'⟩) ∧ AllAt (NewN C lo w.heap.size w') vs' x' ∧ C.I n s' w' ∧ Kept C.O C.hi w w'
def TLPost (C : Clo σ g c1 c2) (lo n : Nat) (w : World) (l' : List (List D)) (s' : σ) (e : Ending) (w' : World) : Prop := ∃ a cap, e = .returned (.slice a l'.length cap) ∧ At (NewN C lo w.heap.size w') (.slice a l'.length cap) (.row l') ∧ C.I n s' w' ∧ Kept C.O C.hi w w'
/-- A method of the turner, at an element. -/
def TFn (C : Clo σ g c1 c2) (w0 : World) (F : Nat) (f : σ → List D → List D × σ) (h : List D → List ByteArray) (x : List D) : Prop :=
  ∀ vs, AllAt w0 vs x → ∀ (n m : Nat) (st : σ) (W : World), n + (h x).length ≤ m → C.I m st W → Below w0.heap.size w0 W → Calls Tryz.prog F #[.agg #[.func (.func g) #[] #[c1, c2]], .agg ⟨vs⟩] W (TPost C w0.heap.size n W (f st x).1 (f st x).2)
theorem Clo.atLeast (C : Clo σ g c1 c2) {n m : Nat} {s : σ} {w : World} (h : C.I m s w) (hn : n ≤ m) : C.I n s w := by
  obtain ⟨e, rfl⟩ : ∃ e, m = n + e := ⟨m - n, by omega⟩
  exact C.downs h
theorem Kept.ground {C : Clo σ g c1 c2} {m : Nat} {st : σ} {w0 W W' : World} (h : Kept C.O C.hi W W') (hI : C.I m st W) (hlow : w0.heap.size ≤ C.low) (hW : Below w0.heap.size w0 W) : Below w0.heap.size w0 W' :=
  h.toBelow hW (Nat.le_refl _) fun c hc e => by have := (C.ltO hI e).1; omega
theorem Clo.al (C : Clo σ g c1 c2) {m : Nat} {st : σ} {W : World} (hI : C.I m st W) (o : Obj) : Kept C.O C.hi W (W.alloc o) ∧ C.I m st (W.alloc o) :=
  C.below (Kept.refl C.O C.hi W) hI (Nat.le_trans (C.hiI hI).1 (C.hiI hI).2) ((Below.refl _ W).alloc (Nat.le_refl _) o)
end
theorem dropC {l : List (List D)} {k : Nat} {x : List D} (hx : l[k]? = some x) : l.drop k = x :: l.drop (k + 1) := by
  obtain ⟨h, e⟩ := List.getElem?_eq_some_iff.1 hx
  rw [← e]
  exact List.drop_eq_getElem_cons h
end Go.Proofs.YtciijpahjjoppaaGreat
end
section
namespace Go.Proofs.YtciijpahjjoppaaGreat
open Go.RowKit Go.Shelf Go.Deep
set_option maxRecDepth 100000 in
theorem tnote_any (g : Nat) (c1 c2 : Value) (s : ByteArray) (w : World) : Calls Tryz.prog 124 #[.agg #[.func (.func g) #[] #[c1, c2]], .string s] w fun e w' => e = .returned (.string s) ∧ Below w.heap.size w w' := by
  have R1 := Lib.hid ((Below.refl w.heap.size w).alloc (Nat.le_refl _) (.cells #[.func (.func g) #[] #[c1, c2]] 97))
  go_enter Tryz.func124, Tryz.ntmps124
  go_wp2_with fail
  go_ret
  exact ⟨rfl, R1.out⟩
theorem tinfo9 : (Tryz.prog.info? 9).map (fun i => (i.zero, i.size, i.bytes)) = some (some (.string ⟨#[]⟩), 1, 16) := by kernel_rfl
set_option maxRecDepth 100000 in
set_option maxHeartbeats 4000000 in
theorem turnT_any {σ : Type} {g : Nat} {c1 c2 : Value} (C : Clo σ g c1 c2) (w0 : World) (hlow : w0.heap.size ≤ C.low) (a : Option Addr) (len cap : Nat) (l : List (List D)) (hA : At w0 (.slice a len cap) (.row l)) (hs : ∀ x ∈ l, ShT x) (hl2 : l.length ≤ 8000000)
    (n : Nat) (st : σ) (W : World) (hI : C.I n st W) (hW : Below w0.heap.size w0 W) :
    Calls Tryz.prog 123 #[.slice a len cap, .func (.func 124) #[.agg #[.func (.func g) #[] #[c1, c2]]] #[]] W (TLPost C w0.heap.size n W l st) := by
  have HI := Lib.hid hI
  have HA := Lib.hid hA
  cases a with
  | none =>
    have h0 : l = [] := by
      cases hA with
      | nil _ _ _ => rfl
    subst h0
    obtain rfl : len = 0 := hA.len_eq.1.symm
    have hn := eql_nil Tryz.underlying29 none 0 cap
    simp only [Option.isNone_none] at hn
    clear hA hI
    go_enter Tryz.func123, Tryz.ntmps123
    go_wp2_with fail
    go_ret
    exact ⟨none, 0, rfl, .nil none 0 (by decide), HI.out, Kept.refl _ _ _⟩
  | some ad =>
  have HS := Lib.hid hs
  have HW := Lib.hid hW
  have hle := hA.len_le
  have HL := Lib.hid hA.len_eq.1
  have hlen2 : len ≤ 8000000 := by rw [← hA.len_eq.1]; exact hl2
  have hn := eql_nil Tryz.underlying29 (some ad) len cap
  simp only [Option.isNone_some] at hn
  have eg := enters_of Tryz.func124 (by kernel_rfl) rfl
  obtain ⟨i0, hi, hz0, hz1, hz2⟩ := info_parts tinfo9
  have HLO := Lib.hid hlow
  clear hA hs hW hI hlow hl2
  go_enter Tryz.func123, Tryz.ntmps123
  go_wp2_with (first
    | (refine wp_makeRow (o := ⟨some 12, _, _, _, _, _⟩) rfl (.tmp 11) 29 9 rfl i0 _ 1 Tryz.underlying29 hi hz0 hz1 len rfl (by rw [hz2]; omega) (by unfold maxLen; omega) ?_; intro w1 hown1 hgrow1))
  have J0 := Lib.hid (TuJ.start (lo := w0.heap.size) (T := 9) (K := 1) HI.out hown1 hgrow1)
  clear hown1 hgrow1
  go_loopw [5, 15] (fun u i wr => ∃ (k : Nat) (v : Value) (vss : List (List Value)), k ≤ len ∧ v = u ∧ i = .int .i64 k ∧ Hid (TuJ C w0.heap.size n W st 9 1 v k vss (l.take k) wr)) (fun _ i _ => len - (intOf i).toNat)
  case atStart => exact ⟨0, _, [], Nat.zero_le _, rfl, rfl, J0⟩
  case round =>
    obtain ⟨k, v, vss, hk, rfl, rfl, HJ⟩ := hrel
    by_cases hlt : k < len
    · obtain ⟨b, o, vs, ds, hab, hbl, hx, hv, hc⟩ := HA.out.elem hlt
      obtain rfl : ad = ⟨b, o, none⟩ := by cases hab; rfl
      obtain ⟨s, hds, hvs, hsz⟩ := hv.openT (HS.out _ (List.mem_of_getElem? hx))
      subst hvs
      have hdl : ds.length = 1 := by rw [hds]; rfl
      rw [hdl] at hc
      have B0 := Lib.hid (HJ.out.kept.ground HI.out HLO.out HW.out)
      have hbw : b < wr.heap.size := Nat.lt_of_lt_of_le hbl B0.out.size
      have c0 := (B0.out.cell (p := ⟨b, o + k * 1, none⟩) hbl).trans (hc 0 _ rfl)
      rw [Nat.mul_one] at c0
      have TK := Lib.hid (show l.take (k + 1) = l.take k ++ [ds] by rw [List.take_add_one, hx]; rfl)
      have DL := Lib.hid hdl
      have DV := Lib.hid (show AllAt wr [.string s] ds by rw [hds]; exact ⟨.str s hsz, trivial⟩)
      have HVN := Lib.hid (fun b (hb : v.ownBlock = some b) => (rowBlock HJ.out.row hb).2.1)
      have HWR := Lib.hid (show W.heap.size ≤ wr.heap.size from HJ.out.kept.size)
      clear hdl hv hc hx hab hds
      go_wp2_with fail
      refine (tnote_any g c1 c2 s _).mono ?_
      rintro e w3 ⟨rfl, b3⟩
      have J2 := Lib.hid (HJ.out.below b3)
      have J3 := Lib.hid (J2.out.below ((Below.refl w3.heap.size w3).alloc (Nat.le_refl _) (.cells #[.string s] 9)))
      have HB3 := Lib.hid (show wr.heap.size ≤ w3.heap.size from b3.size)
      have DD := Lib.hid (show AllAt (NewN C w0.heap.size wr.heap.size (w3.alloc (.cells #[.string s] 9))) [.string s] ds by
        have := DV.out
        match ds, DL.out, this with
        | [d], _, h => exact ⟨by obtain ⟨h1, _⟩ := h; cases h1 with | str _ hh => exact .str s hh, trivial⟩)
      clear b3
      go_wp2_with (first
        | (at_builtin; refine wpList_append_own_at _ rfl _ _ 29 rfl W.heap.size 9 i0 _ 1 16 Tryz.underlying29 hi hz0 hz1 hz2 rfl (by decide) _ _ _ rfl J3.out.row ⟨w3.heap.size, 0, none⟩ 1 1 [.string s] rfl rfl (cell_one_new _ _ _) (by simp [Value.oneCell']) (by unfold maxLen; omega) (by omega) (by have := HB3.out; have := HWR.out; simp; omega) ?_; intro v' w4 hown4 hgrow4 _ hat4))
      have J4 := Lib.hid (J3.out.appended (by have := HW.out.size; omega) rfl DL.out DD.out HWR.out HVN.out hgrow4 hat4 hown4)
      clear hown4 hgrow4 hat4
      go_roundw
      case rel => exact ⟨k + 1, v', vss ++ [[.string s]], by omega, rfl, by go_num, Lib.hid (by rw [TK.out]; exact J4.out)⟩
      case measure => simp [intOf]; omega
    · obtain rfl : k = len := by omega
      obtain ⟨a', cap', hv', hat⟩ := HJ.out.done
      have hil := HJ.out.i
      have hkp := Lib.hid HJ.out.kept
      have HT := Lib.hid (show l.take k = l by rw [← HL.out, List.take_length])
      rw [HT.out] at hv' hat
      have HAT := Lib.hid hat
      have HIL := Lib.hid hil
      clear hat hil HJ
      subst hv'
      go_wp2_with fail
      go_ret
      exact ⟨a', cap', rfl, HAT.out, HIL.out, hkp.out⟩
set_option maxRecDepth 100000 in
set_option maxHeartbeats 4000000 in
theorem tnotes_any {σ : Type} {g : Nat} {c1 c2 : Value} (C : Clo σ g c1 c2) (w0 : World) (hlow : w0.heap.size ≤ C.low) (a : Option Addr) (len cap : Nat) (l : List (List D)) (hA : At w0 (.slice a len cap) (.row l)) (hs : ∀ x ∈ l, ShT x) (hl2 : l.length ≤ 8000000)
    (n : Nat) (st : σ) (W : World) (hI : C.I n st W) (hW : Below w0.heap.size w0 W) :
    Calls Tryz.prog 87 #[.agg #[.func (.func g) #[] #[c1, c2]], .slice a len cap] W (TLPost C w0.heap.size n W l st) := by
  have A1 := C.al hI (.cells #[.func (.func g) #[] #[c1, c2]] 97)
  have HT := Lib.hid (turnT_any C w0 hlow a len cap l hA hs hl2 n st _ A1.2 (hW.alloc hW.size (.cells #[.func (.func g) #[] #[c1, c2]] 97)))
  have K1 := Lib.hid A1.1
  have CA := box_cells (heap_new W (.cells #[.func (.func g) #[] #[c1, c2]] 97))
  clear A1 hA hs hI hW
  go_enter Tryz.func87, Tryz.ntmps87
  go_wp2_with fail
  refine HT.out.mono ?_
  rintro e w3 ⟨a', cap', rfl, hat, i3, k3⟩
  have HAT := Lib.hid (hat.sub (newN_less (n' := W.heap.size) (by simp)))
  have HI3 := Lib.hid i3
  have HK := Lib.hid (K1.out.trans k3)
  clear hat i3 k3 CA
  go_wp2_with fail
  go_ret
  exact ⟨a', cap', rfl, HAT.out, HI3.out, HK.out⟩
end Go.Proofs.YtciijpahjjoppaaGreat
end
section
namespace Go.Proofs.YtciijpahjjoppaaGreat
open Go.RowKit Go.Shelf Go.Deep

theorem AllAt.set {w : World} : ∀ {vs : List Value} {ds : List D} (j : Nat) (v : Value) (d : D), AllAt w vs ds → At w v d → AllAt w (vs.set j v) (ds.set j d)
  | [], [], _, _, _, _, _ => trivial
  | _ :: _, _ :: _, 0, _, _, h, hv => ⟨hv, h.2⟩
  | _ :: _, _ :: _, j + 1, v, d, h, hv => ⟨h.1, AllAt.set j v d h.2 hv⟩
  | [], _ :: _, _, _, _, h, _ => h.elim
  | _ :: _, [], _, _, _, h, _ => h.elim
section
variable {σ : Type} {g : Nat} {c1 c2 : Value}
structure BxD (C : Clo σ g c1 c2) (lo m : Nat) (w : World) (st : σ) (T : TypeId) (cs : List Value) (ds : List D) (W : World) : Prop where
  j : BxJ C m w st T cs W
  d : AllAt (NewN C lo (w.heap.size + 3) W) cs ds
theorem BxD.start (C : Clo σ g c1 c2) {w0 : World} (hlow : w0.heap.size ≤ C.low) {k : Nat} {w : World} {st : σ} {T : TypeId} {cs : Array Value} {ds : List D} {zs : Array Value} (hz : zs.size = cs.size) (h : C.I k st w) (hW : Below w0.heap.size w0 w) (hd : AllAt w0 cs.toList ds) :
    BxD C w0.heap.size k w st T cs.toList ds (((w.alloc (.cells #[.func (.func g) #[] #[c1, c2]] 97)).alloc (.cells cs T)).alloc (.cells zs T)) := by
  have J := BxJ.start C hz h (T := T)
  exact ⟨J, hd.sub (newN_ground J.i hlow (J.kept.ground h hlow hW))⟩
theorem BxD.called {C : Clo σ g c1 c2} {lo m m' : Nat} {w : World} {st st' : σ} {T : TypeId} {cs : List Value} {ds : List D} {W W' : World} (h : BxD C lo m w st T cs ds W) (hk : Kept C.O C.hi W W') (hi : C.I m' st' W') : BxD C lo m' w st' T cs ds W' :=
  ⟨h.j.called hk hi, h.d.sub (newN_kept hk)⟩
theorem BxD.set {C : Clo σ g c1 c2} {lo m : Nat} {w : World} {st : σ} {T : TypeId} {cs : List Value} {ds : List D} {W : World} (h : BxD C lo m w st T cs ds W) (hlo : lo ≤ w.heap.size) (i : Nat) (v : Value) (d : D) (hv : At (NewN C lo (w.heap.size + 3) W) v d) :
    BxD C lo m w st T (cs.set i v) (ds.set i d) (W.setCell ⟨w.heap.size + 1, i, none⟩ v) := by
  have J := h.j.set i v
  have hO : ∀ b, b < W.heap.size → C.O (W.setCell ⟨w.heap.size + 1, i, none⟩ v) b → C.O W b := fun b _ e => by
    refine (C.keep h.j.i (by rw [setCell_size]; exact Nat.le_refl _) (fun b hb => setCell_other i v (by have := h.j.low; omega)) (fun b hb => setCell_other i v fun e2 => h.j.n1 (by rw [e2] at hb; exact hb))).2 b e
  have S : Sub (NewN C lo (w.heap.size + 3) W) (NewN C lo (w.heap.size + 3) (W.setCell ⟨w.heap.size + 1, i, none⟩ v)) :=
    newN_step (by rw [setCell_size]; exact Nat.le_refl _) hO fun b _ h1 _ => setCell_other i v fun e => h1 (by omega)
  exact ⟨J, AllAt.set i v d (h.d.sub S) (hv.sub S)⟩
theorem BxD.last {C : Clo σ g c1 c2} {lo m : Nat} {w : World} {st : σ} {T : TypeId} {cs : List Value} {ds : List D} {W : World} (h : BxD C lo m w st T cs ds W) (hlo : lo ≤ w.heap.size) :
    AllAt (NewN C lo w.heap.size (W.setCells (w.heap.size + 2) 0 cs)) cs ds := by
  have hO : ∀ b, b < W.heap.size → C.O (W.setCells (w.heap.size + 2) 0 cs) b → C.O W b := fun b _ e => by
    refine (C.keep h.j.i (by rw [setCells_size]; exact Nat.le_refl _) (fun b hb => setCells_other cs W _ 0 b (by have := h.j.low; omega)) (fun b hb => setCells_other cs W _ 0 b fun e2 => h.j.n2 (by rw [e2] at hb; exact hb))).2 b e
  have S : Sub (NewN C lo (w.heap.size + 3) W) (NewN C lo (w.heap.size + 3) (W.setCells (w.heap.size + 2) 0 cs)) :=
    newN_step (by rw [setCells_size]; exact Nat.le_refl _) hO fun b _ h1 _ => setCells_other cs W _ 0 b fun e => h1 (by omega)
  exact h.d.sub (S.trans (newN_less (by omega)))
end
theorem nm_small {σ : Type} {g : Nat} {c1 c2 : Value} (C : Clo σ g c1 c2) (hout : ∀ s x, x.size ≤ lim → (C.out s x).size ≤ lim) : ∀ (l : List ByteArray) (s : σ), (∀ x ∈ l, x.size ≤ lim) → ∀ y ∈ (C.pts s l).1, y.size ≤ lim
  | [], _, _, y, hy => by simp [Clo.pts] at hy
  | x :: l, s, hl, y, hy => by
    rw [Clo.pts, List.mem_cons] at hy
    rcases hy with rfl | hy
    · unfold Clo.pt
      split
      · exact hl x (by simp)
      · exact hout s x (hl x (by simp))
    · exact nm_small C hout l _ (fun z hz => hl z (by simp [hz])) y hy
theorem nm_le {σ : Type} {g : Nat} {c1 c2 : Value} (C : Clo σ g c1 c2) (hout : ∀ s x, x.size ≤ lim → (C.out s x).size ≤ lim) (s : σ) (x : ByteArray) (hx : x.size ≤ 8000000) : (C.nm s x).1.size ≤ maxLen := by
  have h1 := nm_small C hout (parts x) s (fun p hp => by have := parts_mem x p hp; unfold lim; omega)
  have h2 := join_len ((C.pts s (parts x)).1.map (·.data.toList)) lim (fun p hp => by
    obtain ⟨q, hq, rfl⟩ := List.mem_map.1 hp
    exact h1 q hq)
  have h3 := parts_len x
  have e : (C.nm s x).1.size = (Lib.join ((C.pts s (parts x)).1.map (·.data.toList)) [36]).length := by
    show (joinD (C.pts s (parts x)).1).size = _
    unfold joinD
    simp [ByteArray.size]
  rw [e]
  rw [List.length_map, C.pts_len] at h2
  have h4 : (parts x).length * (lim + 1) ≤ 8000001 * (lim + 1) := Nat.mul_le_mul_right _ (by omega)
  unfold lim at *
  unfold maxLen
  omega
theorem mRows_len : ∀ (l : List (List D)), (∀ x ∈ l, x ≠ []) → l.length ≤ mRows l
  | [], _ => Nat.zero_le _
  | x :: l, h => by
    have h1 := mRows_len l (fun y hy => h y (by simp [hy]))
    have h2 : 1 ≤ mRow x := by
      cases x with
      | nil => exact absurd rfl (h [] (by simp))
      | cons d r => cases d <;> simp [mRow, mD] <;> omega
    simp [mRows]
    omega
end Go.Proofs.YtciijpahjjoppaaGreat
end
section
namespace Go.Proofs.YtciijpahjjoppaaGreat
open Go.RowKit Go.Shelf Go.Deep

theorem run_storeOff {w : World} {T : TypeId} {k : Nat} (hsz : ∀ w, (sizeOf T).run Tryz.prog w = .ok k w) {vs zs : List Value} (hlen : vs.length = k) {b off : Nat} {T' : TypeId} (hz : off + k ≤ zs.length) (hb : w.heap[b]? = some (.cells ⟨zs⟩ T')) (h1 : ∀ v ∈ vs, v.oneCell' = true) :
    (Instr.storeAt T (.pointer (some ⟨b, off, none⟩)) (.agg ⟨vs⟩)).run Tryz.prog w = .ok () (w.setCells b off vs) := by
  have h := run_storeCells_cells (P := Tryz.prog) b off vs 0 w (fun j hj => by
    rw [box_cells hb, Array.getElem?_eq_getElem (by simp; omega)]
    rfl) (fun j hj => by
    unfold World.frozen?
    simp [hb]) h1
  unfold Instr.storeAt storeVar
  simp [Instr.sureAddr, hsz, hlen, Value.cells, Sem.run_bind]
  rw [h]
  rfl
theorem wp_storeOff {ops : Array Oper} {rest : List Oper} {o : Oper} {a : Act} {Q : Exit → Act → World → Prop} (hgd : o.guard = none) (x y : Operand) (T : TypeId) (ho : o.op = .store T x y) (k : Nat) (hsz : ∀ w, (sizeOf T).run Tryz.prog w = .ok k w)
    {w : World} (b off : Nat) (zs : List Value) (hz : off + k ≤ zs.length) (T' : TypeId) (hb : w.heap[b]? = some (.cells ⟨zs⟩ T')) (hx : a.eval x = .pointer (some ⟨b, off, none⟩)) (vs : List Value) (hy : a.eval y = .agg ⟨vs⟩) (hlen : vs.length = k) (h1 : ∀ v ∈ vs, v.oneCell' = true)
    (hk : wpList Tryz.prog ops Q rest (a.put o.dst undef) (w.setCells b off vs)) : wpList Tryz.prog ops Q (o :: rest) a w := by
  refine wpList_plain hgd fun K hK => ?_
  unfold Oper.wp execOp
  simp only [ho, hx, hy]
  rw [Sem.run_bind, run_storeOff hsz hlen hz hb h1]
  exact hK _ _ hk
theorem owp_storeOff {o : Oper} {a : Act} {Q : Exit → Act → World → Prop} {K : Act → World → Prop} (x y : Operand) (T : TypeId) (ho : o.op = .store T x y) (k : Nat) (hsz : ∀ w, (sizeOf T).run Tryz.prog w = .ok k w)
    {w : World} (b off : Nat) (zs : List Value) (hz : off + k ≤ zs.length) (T' : TypeId) (hb : w.heap[b]? = some (.cells ⟨zs⟩ T')) (hx : a.eval x = .pointer (some ⟨b, off, none⟩)) (vs : List Value) (hy : a.eval y = .agg ⟨vs⟩) (hlen : vs.length = k) (h1 : ∀ v ∈ vs, v.oneCell' = true)
    (hk : K (a.put o.dst undef) (w.setCells b off vs)) : Oper.wp Tryz.prog o a w K Q := by
  unfold Oper.wp execOp
  simp only [ho, hx, hy]
  rw [Sem.run_bind, run_storeOff hsz hlen hz hb h1]
  exact hk
def setMany {α : Type} : List α → Nat → List α → List α
  | l, _, [] => l
  | l, i, v :: r => setMany (l.set i v) (i + 1) r
section
variable {σ : Type} {g : Nat} {c1 c2 : Value}
theorem BxD.sub1 {C : Clo σ g c1 c2} {lo m : Nat} {w : World} {st : σ} {T : TypeId} {cs : List Value} {ds : List D} {W : World} (h : BxD C lo m w st T cs ds W) (hlo : lo ≤ w.heap.size) (i : Nat) (v : Value) : Sub (NewN C lo (w.heap.size + 3) W) (NewN C lo (w.heap.size + 3) (W.setCell ⟨w.heap.size + 1, i, none⟩ v)) := by
  have hO : ∀ b, b < W.heap.size → C.O (W.setCell ⟨w.heap.size + 1, i, none⟩ v) b → C.O W b := fun b _ e => by
    refine (C.keep h.j.i (by rw [setCell_size]; exact Nat.le_refl _) (fun b hb => setCell_other i v (by have := h.j.low; omega)) (fun b hb => setCell_other i v fun e2 => h.j.n1 (by rw [e2] at hb; exact hb))).2 b e
  exact newN_step (by rw [setCell_size]; exact Nat.le_refl _) hO fun b _ h1 _ => setCell_other i v fun e => h1 (by omega)
theorem BxD.sets {C : Clo σ g c1 c2} {lo m : Nat} {w : World} {st : σ} {T : TypeId} (hlo : lo ≤ w.heap.size) : ∀ {vs : List Value} {es : List D} {cs : List Value} {ds : List D} {W : World} (i : Nat), BxD C lo m w st T cs ds W → AllAt (NewN C lo (w.heap.size + 3) W) vs es →
    BxD C lo m w st T (setMany cs i vs) (setMany ds i es) (W.setCells (w.heap.size + 1) i vs)
  | [], [], _, _, _, _, h, _ => h
  | v :: _, e :: _, _, _, _, i, h, hv => BxD.sets hlo (i + 1) (h.set hlo i v e hv.1) (AllAt.sub hv.2 (h.sub1 hlo i v))
  | [], _ :: _, _, _, _, _, _, hv => hv.elim
  | _ :: _, [], _, _, _, _, _, hv => hv.elim
theorem BxJ.stored {C : Clo σ g c1 c2} {k : Nat} {w : World} {st : σ} {T : TypeId} {cs : List Value} {W : World} (h : BxJ C k w st T cs W) (vs : List Value) (hv : vs.length = cs.length) : BxJ C k w st T cs (W.setCells (w.heap.size + 2) 0 vs) ∧ (W.setCells (w.heap.size + 2) 0 vs).heap[w.heap.size + 2]? = some (.cells ⟨vs⟩ T) := by
  obtain ⟨zs, h1, h2⟩ := h.br
  have own : ∀ b, C.O W b → (W.setCells (w.heap.size + 2) 0 vs).heap[b]? = W.heap[b]? := fun b hb => setCells_other vs W _ 0 b fun e => h.n2 (by rw [e] at hb; exact hb)
  have old : ∀ b, b < w.heap.size → (W.setCells (w.heap.size + 2) 0 vs).heap[b]? = W.heap[b]? := fun b hb => setCells_other vs W _ 0 b (by omega)
  have hs := setCells_os vs W (w.heap.size + 2) 0
  obtain ⟨k2, o2⟩ := C.keep h.i (w' := W.setCells (w.heap.size + 2) 0 vs) (by rw [setCells_size]; exact Nat.le_refl _) (fun b hb => old b (by have := h.low; omega)) own
  have kk := (C.next h.kept h.i h.low hs.1 hs.2.1 hs.2.2 (by rw [setCells_size]; exact Nat.le_refl _) own old).1
  have hh := setCells_heap vs [] zs W _ (by simpa using h2) (hv.trans h1.symm)
  exact ⟨⟨k2, (setCells_other vs W _ 0 _ (by omega)).trans h.bt, (setCells_other vs W _ 0 _ (by omega)).trans h.bx, ⟨vs, hv, by simpa using hh⟩, fun e => h.n0 (o2 _ e), fun e => h.n1 (o2 _ e), fun e => h.n2 (o2 _ e), kk, h.low, by rw [setCells_size]; exact h.sz⟩, by simpa using hh⟩
end
end Go.Proofs.YtciijpahjjoppaaGreat
end
