/-
  An expression that came in, opened, with its bulk.
-/
import Derived.Test.YtpcldpnaljheoaaGreatDoorZz6
import Derived.Deep.Slices
import Derived.ProofKit
import Derived.OpenShut
namespace Go.Proofs.YtpcldpnaljheoaaGreatDoor
open Go.ChangeShapes Go.WideShapes Go.RowKit Go.Deep

theorem list5 {α : Type} {l : List α} (h : l.length = 5) : ∃ a0 a1 a2 a3 a4, l = [a0, a1, a2, a3, a4] := by
  match l, h with
  | [a0, a1, a2, a3, a4], _ => exact ⟨a0, a1, a2, a3, a4, rfl⟩
theorem cel2 : Tryz.prog.cellsOf 2 = 1 := by kernel_rfl
theorem cel3 : Tryz.prog.cellsOf 3 = 1 := by kernel_rfl
theorem cel9 : Tryz.prog.cellsOf 9 = 1 := by kernel_rfl
theorem cel23 : Tryz.prog.cellsOf 23 = 1 := by kernel_rfl
theorem cel25 : Tryz.prog.cellsOf 25 = 5 := by kernel_rfl
mutual
def mD : D → Nat
  | .int _ => 1
  | .bool _ => 1
  | .str s => s.size + 1
  | .row l => mRows l + 1
def mRow : List D → Nat
  | [] => 0
  | d :: r => mD d + mRow r
def mRows : List (List D) → Nat
  | [] => 0
  | x :: l => mRow x + mRows l
end
theorem mRows_le {H : Type} (E : List (DataW H)) (g : Nat → List D) (h : ∀ j d, E[j]? = some d → mRow (g j) ≤ Rows.uptoBulk d) : mRows ((List.range E.length).map g) ≤ Rows.uptoBulkAll E := by
  induction E generalizing g with
  | nil => simp [mRows, Rows.uptoBulkAll]
  | cons d r ih =>
    rw [List.length_cons, List.range_succ_eq_map, List.map_cons, List.map_map]
    have h0 := h 0 d rfl
    have h1 := ih (fun j => g (j + 1)) fun j d' hd => h (j + 1) d' (by simpa using hd)
    simp only [mRows, Rows.uptoBulkAll]
    have e : (List.map (g ∘ Nat.succ) (List.range r.length)) = (List.map (fun j => g (j + 1)) (List.range r.length)) := rfl
    rw [e]
    omega
section
variable {H : Type} {enc : TypeId × Value → H} {W : World}
/-- A reading gives data of a shape, of no more bulk. -/
def OpensU (enc : TypeId × Value → H) (W : World) (Sh : List D → Prop) (t : TypeId) (n : Nat) : Prop := ∀ cs x, DataW.trod enc Tryz.prog W 0 (fun _ => true) true n t cs = some x → ∃ ds, AllAt W cs ds ∧ Sh ds ∧ mRow ds ≤ Rows.uptoBulk x.1
theorem row_ofU {Sh : List D → Prop} {t e : TypeId} {k : Nat} (ht : Tryz.prog.underlying t = some (.slice e)) (hk : Tryz.prog.cellsOf e = k) (hk0 : 0 < k) (hlen : ∀ ds, Sh ds → ds.length = k) {fuel : Nat} {cs : List Value} {x : DataW H × List MemPlace}
    (h : DataW.trod enc Tryz.prog W 0 (fun _ => true) true fuel t cs = some x) (hel : ∀ n, n < fuel → OpensU enc W Sh e n) : ∃ v l, cs = [v] ∧ At W v (.row l) ∧ (∀ z ∈ l, Sh z) ∧ mRows l + 1 ≤ Rows.uptoBulk x.1 := by
  rcases DataW.trod_slice ht h with ⟨rfl, rfl⟩ | ⟨a, len, cap, elems, rest, n, rfl, rfl, rfl, _, hl, hm, hlen', hin, _, _⟩
  · exact ⟨_, [], rfl, .nil none 0 (by decide), by simp, by simp [mRows, Rows.uptoBulk]⟩
  · have key : ∀ j, j < len → ∃ p : List Value × List D, W.cells? 0 (a.add (j * k)) k = some p.1 ∧ AllAt W p.1 p.2 ∧ Sh p.2 ∧ ∀ d, (elems.map (·.1))[j]? = some d → mRow p.2 ≤ Rows.uptoBulk d := by
      intro j hj
      have h1 := hin j hj
      rw [hk, List.getElem?_eq_getElem (by omega)] at h1
      obtain ⟨cs', h2, h3⟩ := Option.bind_eq_some_iff.1 h1
      obtain ⟨ds, h4, h5, h6⟩ := hel n (Nat.lt_succ_self n) cs' _ h3
      refine ⟨(cs', ds), h2, h4, h5, fun d hd => ?_⟩
      rw [List.getElem?_map, List.getElem?_eq_getElem (by omega)] at hd
      obtain rfl : (elems[j]'(by omega)).1 = d := by simpa using hd
      exact h6
    obtain ⟨f, hf⟩ := choose_lt key
    have hbulk : mRows ((List.range len).map fun j => (f j).2) + 1 ≤ Rows.uptoBulk (DataW.slice (elems.map (·.1)) (rest.map (·.1))) := by
      have h1 := mRows_le (elems.map (·.1)) (fun j => (f j).2) fun j d hd => by
        have hj : j < len := by
          have := (List.getElem?_eq_some_iff.1 hd).1
          rw [List.length_map] at this
          omega
        exact (hf j hj).2.2.2 d hd
      rw [List.length_map, hlen'] at h1
      simp only [Rows.uptoBulk]
      omega
    by_cases h0 : len = 0
    · subst h0
      exact ⟨_, [], rfl, .nil _ _ hm, by simp, by simpa [mRows] using hbulk⟩
    · have hcell : ∀ j i v, j < len → (f j).1[i]? = some v → W.cell? (a.add (j * k + i)) = some v := by
        intro j i v hj hv
        obtain ⟨_, hl', hat⟩ := World.cells?_some (hf j hj).1
        have hi : i < k := by rw [← hl']; exact (List.getElem?_eq_some_iff.1 hv).1
        have := hat i hi
        rw [Go.Deep.add_add] at this
        rw [this, hv]
      obtain ⟨b, o, spot⟩ := a
      have hl0 : (f 0).1.length = k := (World.cells?_some (hf 0 (by omega)).1).2.1
      have hc0 := hcell 0 0 _ (by omega) (List.getElem?_eq_getElem (by omega))
      have hspot : spot = none := by simpa [Addr.add] using World.cell?_spot hc0
      subst hspot
      rw [add_mid2] at hc0
      refine ⟨_, (List.range len).map fun j => (f j).2, rfl, .row b o len cap k _ (fun j => (f j).1) (by simp) hl hm (block_lt_of_cell hc0) (fun j hj => (World.cells?_some (hf j hj).1).2.1) ?_ ?_ ?_, ?_, hbulk⟩
      · intro j ds hj
        have hj' : j < len := by simpa using (List.getElem?_eq_some_iff.1 hj).1
        simp [hj'] at hj
        rw [← hj]
        exact hlen _ (hf j hj').2.2.1
      · intro j i v hj hv
        have := hcell j i v hj hv
        rw [add_mid2] at this
        rw [Nat.add_assoc]
        exact this
      · intro j i ds v d hj hv hd
        have hj' : j < len := by simpa using (List.getElem?_eq_some_iff.1 hj).1
        simp [hj'] at hj
        rw [← hj] at hd
        exact allAt_get (hf j hj').2.1 i v d hv hd
      · intro z hz
        obtain ⟨j, hj, rfl⟩ := List.mem_map.1 hz
        exact (hf j (by simpa using hj)).2.2.1
set_option maxHeartbeats 1000000 in
theorem opensU_E (n : Nat) : OpensU enc W ShE 25 n := by
  induction n using Nat.strongRecOn with
  | ind n ih =>
    intro cs x h
    obtain ⟨xs, m, rfl, hxe, hl, hlen, hg⟩ := DataW.trod_struct Tryz.underlying25 h
    rw [cel25] at hl
    have hlen' : xs.length = 5 := hlen
    clear hlen
    obtain ⟨c0, c1, c2, c3, c4, rfl⟩ := list5 hl
    obtain ⟨y0, y1, y2, y3, y4, rfl⟩ := list5 hlen'
    clear hl hlen' h
    have g0 : DataW.trod enc Tryz.prog W 0 (fun _ => true) true m 3 ((([c0, c1, c2, c3, c4] : List Value).drop 0).take (Tryz.prog.cellsOf 3)) = some y0 := hg 0 _ rfl
    rw [cel3] at g0
    obtain ⟨n0, e0, rfl, w0⟩ := DataW.trod_int Tryz.underlying3 g0
    obtain rfl : c0 = .int .i64 n0 := by simpa using e0
    have b0 := bounds_i64 w0
    have g1 : DataW.trod enc Tryz.prog W 0 (fun _ => true) true m 2 ((([.int .i64 n0, c1, c2, c3, c4] : List Value).drop 1).take (Tryz.prog.cellsOf 2)) = some y1 := hg 1 _ rfl
    rw [cel2] at g1
    obtain ⟨n1, e1, rfl, w1⟩ := DataW.trod_int Tryz.underlying2 g1
    obtain rfl : c1 = .int .i64 n1 := by simpa using e1
    have b1 := bounds_i64 w1
    have g2 : DataW.trod enc Tryz.prog W 0 (fun _ => true) true m 9 ((([.int .i64 n0, .int .i64 n1, c2, c3, c4] : List Value).drop 2).take (Tryz.prog.cellsOf 9)) = some y2 := hg 2 _ rfl
    rw [cel9] at g2
    obtain ⟨s2, e2, rfl, w2⟩ := DataW.trod_string Tryz.underlying9 g2
    obtain rfl : c2 = .string s2 := by simpa using e2
    have g3 : DataW.trod enc Tryz.prog W 0 (fun _ => true) true m 9 ((([.int .i64 n0, .int .i64 n1, .string s2, c3, c4] : List Value).drop 3).take (Tryz.prog.cellsOf 9)) = some y3 := hg 3 _ rfl
    rw [cel9] at g3
    obtain ⟨s3, e3, rfl, w3⟩ := DataW.trod_string Tryz.underlying9 g3
    obtain rfl : c3 = .string s3 := by simpa using e3
    have g4 : DataW.trod enc Tryz.prog W 0 (fun _ => true) true m 23 ((([.int .i64 n0, .int .i64 n1, .string s2, .string s3, c4] : List Value).drop 4).take (Tryz.prog.cellsOf 23)) = some y4 := hg 4 _ rfl
    rw [cel23] at g4
    obtain ⟨v4, l4, e4, a4, z4, m4⟩ := row_ofU Tryz.underlying23 cel25 (by omega) (fun _ h => ShE.ln h) g4 (fun j hj => ih j (by omega))
    obtain rfl : c4 = v4 := by simpa using e4
    refine ⟨[.int n0, .int n1, .str s2, .str s3, .row l4], ⟨.int n0 b0.1 b0.2, .int n1 b1.1 b1.2, .str s2 w2, .str s3 w3, a4, trivial⟩, .mk _ _ _ _ _ z4, ?_⟩
    rw [hxe]
    simp only [mRow, mD, List.map_cons, List.map_nil, Rows.uptoBulk, Rows.uptoBulkAll]
    have el2 : s2.data.toList.length = s2.size := by rw [Array.length_toList]; rfl
    have el3 : s3.data.toList.length = s3.size := by rw [Array.length_toList]; rfl
    omega
end
end Go.Proofs.YtpcldpnaljheoaaGreatDoor
