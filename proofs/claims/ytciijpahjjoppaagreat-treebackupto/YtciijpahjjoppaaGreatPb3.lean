/-
  Texts of this proof, put together.
-/
import Derived.Test.YtciijpahjjoppaaGreatPb1
import Derived.Deep.Slices
import Derived.ProofKit
import Derived.OpenShut
import Derived.Test.YtciijpahjjoppaaGreatPb2
section
namespace Go.Proofs.YtciijpahjjoppaaGreat
open Go.ChangeShapes Go.WideShapes Go.RowKit Go.Deep

mutual
def mD : D → Nat
  | .int _ => 1
  | .bool _ => 1
  | .str s => s.size + 1
  | .row l => mRows l + 1
def mRow : List D → Nat
  | [] => 0
  | d :: r => mD d + mRow r
def mRows : List (List D) → Nat
  | [] => 0
  | x :: l => mRow x + mRows l
end
theorem mRows_le {H : Type} (E : List (DataW H)) (g : Nat → List D) (h : ∀ j d, E[j]? = some d → mRow (g j) ≤ Rows.uptoBulk d) : mRows ((List.range E.length).map g) ≤ Rows.uptoBulkAll E := by
  induction E generalizing g with
  | nil => simp [mRows, Rows.uptoBulkAll]
  | cons d r ih =>
    rw [List.length_cons, List.range_succ_eq_map, List.map_cons, List.map_map]
    have h0 := h 0 d rfl
    have h1 := ih (fun j => g (j + 1)) fun j d' hd => h (j + 1) d' (by simpa using hd)
    simp only [mRows, Rows.uptoBulkAll]
    have e : (List.map (g ∘ Nat.succ) (List.range r.length)) = (List.map (fun j => g (j + 1)) (List.range r.length)) := rfl
    rw [e]
    omega
section
variable {H : Type} {enc : TypeId × Value → H} {W : World}
/-- A reading gives data of a shape, of no more bulk. -/
def OpensU (enc : TypeId × Value → H) (W : World) (Sh : List D → Prop) (t : TypeId) (n : Nat) : Prop := ∀ cs x, DataW.trod enc Tryz.prog W 0 (fun _ => true) true n t cs = some x → ∃ ds, AllAt W cs ds ∧ Sh ds ∧ mRow ds ≤ Rows.uptoBulk x.1
theorem row_ofU {Sh : List D → Prop} {t e : TypeId} {k : Nat} (ht : Tryz.prog.underlying t = some (.slice e)) (hk : Tryz.prog.cellsOf e = k) (hk0 : 0 < k) (hlen : ∀ ds, Sh ds → ds.length = k) {fuel : Nat} {cs : List Value} {x : DataW H × List MemPlace}
    (h : DataW.trod enc Tryz.prog W 0 (fun _ => true) true fuel t cs = some x) (hel : ∀ n, n < fuel → OpensU enc W Sh e n) : ∃ v l, cs = [v] ∧ At W v (.row l) ∧ (∀ z ∈ l, Sh z) ∧ mRows l + 1 ≤ Rows.uptoBulk x.1 := by
  rcases DataW.trod_slice ht h with ⟨rfl, rfl⟩ | ⟨a, len, cap, elems, rest, n, rfl, rfl, rfl, _, hl, hm, hlen', hin, _, _⟩
  · exact ⟨_, [], rfl, .nil none 0 (by decide), by simp, by simp [mRows, Rows.uptoBulk]⟩
  · have key : ∀ j, j < len → ∃ p : List Value × List D, W.cells? 0 (a.add (j * k)) k = some p.1 ∧ AllAt W p.1 p.2 ∧ Sh p.2 ∧ ∀ d, (elems.map (·.1))[j]? = some d → mRow p.2 ≤ Rows.uptoBulk d := by
      intro j hj
      have h1 := hin j hj
      rw [hk, List.getElem?_eq_getElem (by omega)] at h1
      obtain ⟨cs', h2, h3⟩ := Option.bind_eq_some_iff.1 h1
      obtain ⟨ds, h4, h5, h6⟩ := hel n (Nat.lt_succ_self n) cs' _ h3
      refine ⟨(cs', ds), h2, h4, h5, fun d hd => ?_⟩
      rw [List.getElem?_map, List.getElem?_eq_getElem (by omega)] at hd
      obtain rfl : (elems[j]'(by omega)).1 = d := by simpa using hd
      exact h6
    obtain ⟨f, hf⟩ := choose_lt key
    have hbulk : mRows ((List.range len).map fun j => (f j).2) + 1 ≤ Rows.uptoBulk (DataW.slice (elems.map (·.1)) (rest.map (·.1))) := by
      have h1 := mRows_le (elems.map (·.1)) (fun j => (f j).2) fun j d hd => by
        have hj : j < len := by
          have := (List.getElem?_eq_some_iff.1 hd).1
          rw [List.length_map] at this
          omega
        exact (hf j hj).2.2.2 d hd
      rw [List.length_map, hlen'] at h1
      simp only [Rows.uptoBulk]
      omega
    by_cases h0 : len = 0
    · subst h0
      exact ⟨_, [], rfl, .nil _ _ hm, by simp, by simpa [mRows] using hbulk⟩
    · have hcell : ∀ j i v, j < len → (f j).1[i]? = some v → W.cell? (a.add (j * k + i)) = some v := by
        intro j i v hj hv
        obtain ⟨_, hl', hat⟩ := World.cells?_some (hf j hj).1
        have hi : i < k := by rw [← hl']; exact (List.getElem?_eq_some_iff.1 hv).1
        have := hat i hi
        rw [Go.Deep.add_add] at this
        rw [this, hv]
      obtain ⟨b, o, spot⟩ := a
      have hl0 : (f 0).1.length = k := (World.cells?_some (hf 0 (by omega)).1).2.1
      have hc0 := hcell 0 0 _ (by omega) (List.getElem?_eq_getElem (by omega))
      have hspot : spot = none := by simpa [Addr.add] using World.cell?_spot hc0
      subst hspot
      rw [add_mid2] at hc0
      refine ⟨_, (List.range len).map fun j => (f j).2, rfl, .row b o len cap k _ (fun j => (f j).1) (by simp) hl hm (block_lt_of_cell hc0) (fun j hj => (World.cells?_some (hf j hj).1).2.1) ?_ ?_ ?_, ?_, hbulk⟩
      · intro j ds hj
        have hj' : j < len := by simpa using (List.getElem?_eq_some_iff.1 hj).1
        simp [hj'] at hj
        rw [← hj]
        exact hlen _ (hf j hj').2.2.1
      · intro j i v hj hv
        have := hcell j i v hj hv
        rw [add_mid2] at this
        rw [Nat.add_assoc]
        exact this
      · intro j i ds v d hj hv hd
        have hj' : j < len := by simpa using (List.getElem?_eq_some_iff.1 hj).1
        simp [hj'] at hj
        rw [← hj] at hd
        exact (hf j hj').2.1.get i v d hv hd
      · intro z hz
        obtain ⟨j, hj, rfl⟩ := List.mem_map.1 hz
        exact (hf j (by simpa using hj)).2.2.1
theorem opensU_T (n : Nat) : OpensU enc W ShT 9 n := fun cs x h => by
  obtain ⟨s, rfl, rfl, hs⟩ := DataW.trod_string Tryz.underlying9 h
  refine ⟨[.str s], ⟨.str s hs, trivial⟩, .mk s, ?_⟩
  simp only [mRow, mD, Rows.uptoBulk]
  exact Nat.le_refl _
theorem marks_ofU {n : Nat} {cs : List Value} {x : DataW H × List MemPlace} (h : DataW.trod enc Tryz.prog W 0 (fun _ => true) true n 59 cs = some x) :
    ∃ v v' l l', cs = [v, v'] ∧ At W v (.row l) ∧ At W v' (.row l') ∧ (∀ z ∈ l, ShT z) ∧ (∀ z ∈ l', ShT z) ∧ mRows l + mRows l' + 2 ≤ Rows.uptoBulk x.1 := by
  obtain ⟨xs, m, rfl, hxe, hl, hlen, hg⟩ := DataW.trod_struct Tryz.underlying59 h
  rw [cel59] at hl
  have hlen' : xs.length = 2 := hlen
  clear hlen
  obtain ⟨c0, c1, rfl⟩ := list2 hl
  obtain ⟨y0, y1, rfl⟩ := list2 hlen'
  · clear hl hlen' h
    have g0 : DataW.trod enc Tryz.prog W 0 (fun _ => true) true m 29 ((([c0, c1] : List Value).drop 0).take (Tryz.prog.cellsOf 29)) = some y0 := hg 0 _ rfl
    rw [cel29] at g0
    have g1 : DataW.trod enc Tryz.prog W 0 (fun _ => true) true m 29 ((([c0, c1] : List Value).drop 1).take (Tryz.prog.cellsOf 29)) = some y1 := hg 1 _ rfl
    rw [cel29] at g1
    obtain ⟨v0, l0, e0, a0, z0, m0⟩ := row_ofU Tryz.underlying29 cel9 (by omega) (fun _ h => ShT.ln h) g0 (fun j _ => opensU_T j)
    obtain ⟨v1, l1, e1, a1, z1, m1⟩ := row_ofU Tryz.underlying29 cel9 (by omega) (fun _ h => ShT.ln h) g1 (fun j _ => opensU_T j)
    obtain rfl : c0 = v0 := by simpa using e0
    obtain rfl : c1 = v1 := by simpa using e1
    refine ⟨_, _, l0, l1, rfl, a0, a1, z0, z1, ?_⟩
    rw [hxe]
    simp only [List.map_cons, List.map_nil, Rows.uptoBulk, Rows.uptoBulkAll]
    omega
theorem type_ofU {n : Nat} {cs : List Value} {x : DataW H × List MemPlace} (h : DataW.trod enc Tryz.prog W 0 (fun _ => true) true n 73 cs = some x) :
    ∃ kd sz tn, cs = [.int .i64 kd, .int .i64 sz, .string tn] ∧ (-9223372036854775808 ≤ kd ∧ kd ≤ 9223372036854775807) ∧ (-9223372036854775808 ≤ sz ∧ sz ≤ 9223372036854775807) ∧ tn.size ≤ maxLen ∧ tn.size + 3 ≤ Rows.uptoBulk x.1 := by
  obtain ⟨xs, m, rfl, hxe, hl, hlen, hg⟩ := DataW.trod_struct Tryz.underlying73 h
  rw [cel73] at hl
  have hlen' : xs.length = 3 := hlen
  clear hlen
  obtain ⟨c0, c1, c2, rfl⟩ := list3 hl
  obtain ⟨y0, y1, y2, rfl⟩ := list3 hlen'
  · clear hl hlen' h
    have g0 : DataW.trod enc Tryz.prog W 0 (fun _ => true) true m 3 ((([c0, c1, c2] : List Value).drop 0).take (Tryz.prog.cellsOf 3)) = some y0 := hg 0 _ rfl
    rw [cel3] at g0
    have g1 : DataW.trod enc Tryz.prog W 0 (fun _ => true) true m 3 ((([c0, c1, c2] : List Value).drop 1).take (Tryz.prog.cellsOf 3)) = some y1 := hg 1 _ rfl
    rw [cel3] at g1
    have g2 : DataW.trod enc Tryz.prog W 0 (fun _ => true) true m 9 ((([c0, c1, c2] : List Value).drop 2).take (Tryz.prog.cellsOf 9)) = some y2 := hg 2 _ rfl
    rw [cel9] at g2
    obtain ⟨n0, e0, rfl, w0⟩ := DataW.trod_int Tryz.underlying3 g0
    obtain ⟨n1, e1, rfl, w1⟩ := DataW.trod_int Tryz.underlying3 g1
    obtain ⟨s, e2, rfl, w2⟩ := DataW.trod_string Tryz.underlying9 g2
    obtain rfl : c0 = .int .i64 n0 := by simpa using e0
    obtain rfl : c1 = .int .i64 n1 := by simpa using e1
    obtain rfl : c2 = .string s := by simpa using e2
    refine ⟨n0, n1, s, rfl, bounds_i64 w0, bounds_i64 w1, w2, ?_⟩
    rw [hxe]
    simp only [List.map_cons, List.map_nil, Rows.uptoBulk, Rows.uptoBulkAll]
    have e : s.data.toList.length = s.size := by rw [Array.length_toList]; rfl
    omega
set_option maxHeartbeats 1000000 in
theorem opensU_E (n : Nat) : OpensU enc W ShE 24 n := by
  induction n using Nat.strongRecOn with
  | ind n ih =>
    intro cs x h
    obtain ⟨xs, m, rfl, hxe, hl, hlen, hg⟩ := DataW.trod_struct Tryz.underlying24 h
    rw [cel24] at hl
    have hlen' : xs.length = 5 := hlen
    clear hlen
    obtain ⟨c0, c1, c2, c3, c4, rfl⟩ := list5 hl
    obtain ⟨y0, y1, y2, y3, y4, rfl⟩ := list5 hlen'
    clear hl hlen' h
    have g0 : DataW.trod enc Tryz.prog W 0 (fun _ => true) true m 3 ((([c0, c1, c2, c3, c4] : List Value).drop 0).take (Tryz.prog.cellsOf 3)) = some y0 := hg 0 _ rfl
    rw [cel3] at g0
    obtain ⟨n0, e0, rfl, w0⟩ := DataW.trod_int Tryz.underlying3 g0
    obtain rfl : c0 = .int .i64 n0 := by simpa using e0
    have b0 := bounds_i64 w0
    have g1 : DataW.trod enc Tryz.prog W 0 (fun _ => true) true m 2 ((([.int .i64 n0, c1, c2, c3, c4] : List Value).drop 1).take (Tryz.prog.cellsOf 2)) = some y1 := hg 1 _ rfl
    rw [cel2] at g1
    obtain ⟨n1, e1, rfl, w1⟩ := DataW.trod_int Tryz.underlying2 g1
    obtain rfl : c1 = .int .i64 n1 := by simpa using e1
    have b1 := bounds_i64 w1
    have g2 : DataW.trod enc Tryz.prog W 0 (fun _ => true) true m 9 ((([.int .i64 n0, .int .i64 n1, c2, c3, c4] : List Value).drop 2).take (Tryz.prog.cellsOf 9)) = some y2 := hg 2 _ rfl
    rw [cel9] at g2
    obtain ⟨s2, e2, rfl, w2⟩ := DataW.trod_string Tryz.underlying9 g2
    obtain rfl : c2 = .string s2 := by simpa using e2
    have g3 : DataW.trod enc Tryz.prog W 0 (fun _ => true) true m 9 ((([.int .i64 n0, .int .i64 n1, .string s2, c3, c4] : List Value).drop 3).take (Tryz.prog.cellsOf 9)) = some y3 := hg 3 _ rfl
    rw [cel9] at g3
    obtain ⟨s3, e3, rfl, w3⟩ := DataW.trod_string Tryz.underlying9 g3
    obtain rfl : c3 = .string s3 := by simpa using e3
    have g4 : DataW.trod enc Tryz.prog W 0 (fun _ => true) true m 22 ((([.int .i64 n0, .int .i64 n1, .string s2, .string s3, c4] : List Value).drop 4).take (Tryz.prog.cellsOf 22)) = some y4 := hg 4 _ rfl
    rw [cel22] at g4
    obtain ⟨v4, l4, e4, a4, z4, m4⟩ := row_ofU Tryz.underlying22 cel24 (by omega) (fun _ h => ShE.ln h) g4 (fun j hj => ih j (by omega))
    obtain rfl : c4 = v4 := by simpa using e4
    refine ⟨[.int n0, .int n1, .str s2, .str s3, .row l4], ⟨.int n0 b0.1 b0.2, .int n1 b1.1 b1.2, .str s2 w2, .str s3 w3, a4, trivial⟩, .mk _ _ _ _ _ z4, ?_⟩
    rw [hxe]
    simp only [mRow, mD, List.map_cons, List.map_nil, Rows.uptoBulk, Rows.uptoBulkAll]
    have el2 : s2.data.toList.length = s2.size := by rw [Array.length_toList]; rfl
    have el3 : s3.data.toList.length = s3.size := by rw [Array.length_toList]; rfl
    omega
set_option maxHeartbeats 1000000 in
theorem opensU_F (n : Nat) : OpensU enc W ShF 65 n := by
  intro cs x h
  obtain ⟨xs, m, rfl, hxe, hl, hlen, hg⟩ := DataW.trod_struct Tryz.underlying65 h
  rw [cel65] at hl
  have hlen' : xs.length = 3 := hlen
  clear hlen
  obtain ⟨c0, c1, c2, c3, rfl⟩ := list4 hl
  obtain ⟨y0, y1, y2, rfl⟩ := list3 hlen'
  clear hl hlen' h
  have g0 : DataW.trod enc Tryz.prog W 0 (fun _ => true) true m 59 ((([c0, c1, c2, c3] : List Value).drop 0).take (Tryz.prog.cellsOf 59)) = some y0 := hg 0 _ rfl
  rw [cel59] at g0
  obtain ⟨v0, v0', l0, l0', e0, a0, a0', z0, z0', m0⟩ := marks_ofU g0
  obtain ⟨rfl, rfl⟩ : c0 = v0 ∧ c1 = v0' := by simpa using e0
  have g1 : DataW.trod enc Tryz.prog W 0 (fun _ => true) true m 9 ((([c0, c1, c2, c3] : List Value).drop 2).take (Tryz.prog.cellsOf 9)) = some y1 := hg 1 _ rfl
  rw [cel9] at g1
  obtain ⟨s1, e1, rfl, w1⟩ := DataW.trod_string Tryz.underlying9 g1
  obtain rfl : c2 = .string s1 := by simpa using e1
  have g2 : DataW.trod enc Tryz.prog W 0 (fun _ => true) true m 3 ((([c0, c1, .string s1, c3] : List Value).drop 3).take (Tryz.prog.cellsOf 3)) = some y2 := hg 2 _ rfl
  rw [cel3] at g2
  obtain ⟨n2, e2, rfl, w2⟩ := DataW.trod_int Tryz.underlying3 g2
  obtain rfl : c3 = .int .i64 n2 := by simpa using e2
  have b2 := bounds_i64 w2
  refine ⟨[.row l0, .row l0', .str s1, .int n2], ⟨a0, a0', .str s1 w1, .int n2 b2.1 b2.2, trivial⟩, .mk _ _ _ _ z0 z0', ?_⟩
  rw [hxe]
  simp only [mRow, mD, List.map_cons, List.map_nil, Rows.uptoBulk, Rows.uptoBulkAll]
  have el1 : s1.data.toList.length = s1.size := by rw [Array.length_toList]; rfl
  omega
set_option maxHeartbeats 1000000 in
theorem opensU_C (n : Nat) : OpensU enc W ShC 62 n := by
  intro cs x h
  obtain ⟨xs, m, rfl, hxe, hl, hlen, hg⟩ := DataW.trod_struct Tryz.underlying62 h
  rw [cel62] at hl
  have hlen' : xs.length = 4 := hlen
  clear hlen
  obtain ⟨c0, c1, c2, c3, c4, rfl⟩ := list5 hl
  obtain ⟨y0, y1, y2, y3, rfl⟩ := list4 hlen'
  clear hl hlen' h
  have g0 : DataW.trod enc Tryz.prog W 0 (fun _ => true) true m 59 ((([c0, c1, c2, c3, c4] : List Value).drop 0).take (Tryz.prog.cellsOf 59)) = some y0 := hg 0 _ rfl
  rw [cel59] at g0
  obtain ⟨v0, v0', l0, l0', e0, a0, a0', z0, z0', m0⟩ := marks_ofU g0
  obtain ⟨rfl, rfl⟩ : c0 = v0 ∧ c1 = v0' := by simpa using e0
  have g1 : DataW.trod enc Tryz.prog W 0 (fun _ => true) true m 9 ((([c0, c1, c2, c3, c4] : List Value).drop 2).take (Tryz.prog.cellsOf 9)) = some y1 := hg 1 _ rfl
  rw [cel9] at g1
  obtain ⟨s1, e1, rfl, w1⟩ := DataW.trod_string Tryz.underlying9 g1
  obtain rfl : c2 = .string s1 := by simpa using e1
  have g2 : DataW.trod enc Tryz.prog W 0 (fun _ => true) true m 60 ((([c0, c1, .string s1, c3, c4] : List Value).drop 3).take (Tryz.prog.cellsOf 60)) = some y2 := hg 2 _ rfl
  rw [cel60] at g2
  obtain ⟨v2, l2, e2, a2, z2, m2⟩ := row_ofU Tryz.underlying60 cel65 (by omega) (fun _ h => ShF.ln h) g2 (fun j _ => opensU_F j)
  obtain rfl : c3 = v2 := by simpa using e2
  have g3 : DataW.trod enc Tryz.prog W 0 (fun _ => true) true m 29 ((([c0, c1, .string s1, c3, c4] : List Value).drop 4).take (Tryz.prog.cellsOf 29)) = some y3 := hg 3 _ rfl
  rw [cel29] at g3
  obtain ⟨v3, l3, e3, a3, z3, m3⟩ := row_ofU Tryz.underlying29 cel9 (by omega) (fun _ h => ShT.ln h) g3 (fun j _ => opensU_T j)
  obtain rfl : c4 = v3 := by simpa using e3
  refine ⟨[.row l0, .row l0', .str s1, .row l2, .row l3], ⟨a0, a0', .str s1 w1, a2, a3, trivial⟩, .mk _ _ _ _ _ z0 z0' z2 z3, ?_⟩
  rw [hxe]
  simp only [mRow, mD, List.map_cons, List.map_nil, Rows.uptoBulk, Rows.uptoBulkAll]
  have el1 : s1.data.toList.length = s1.size := by rw [Array.length_toList]; rfl
  omega
set_option maxHeartbeats 1000000 in
theorem opensU_V (n : Nat) : OpensU enc W ShV 75 n := by
  intro cs x h
  obtain ⟨xs, m, rfl, hxe, hl, hlen, hg⟩ := DataW.trod_struct Tryz.underlying75 h
  rw [cel75] at hl
  have hlen' : xs.length = 3 := hlen
  clear hlen
  obtain ⟨c0, c1, c2, c3, c4, c5, rfl⟩ := list6 hl
  obtain ⟨y0, y1, y2, rfl⟩ := list3 hlen'
  clear hl hlen' h
  have g0 : DataW.trod enc Tryz.prog W 0 (fun _ => true) true m 59 ((([c0, c1, c2, c3, c4, c5] : List Value).drop 0).take (Tryz.prog.cellsOf 59)) = some y0 := hg 0 _ rfl
  rw [cel59] at g0
  obtain ⟨v0, v0', l0, l0', e0, a0, a0', z0, z0', m0⟩ := marks_ofU g0
  obtain ⟨rfl, rfl⟩ : c0 = v0 ∧ c1 = v0' := by simpa using e0
  have g1 : DataW.trod enc Tryz.prog W 0 (fun _ => true) true m 9 ((([c0, c1, c2, c3, c4, c5] : List Value).drop 2).take (Tryz.prog.cellsOf 9)) = some y1 := hg 1 _ rfl
  rw [cel9] at g1
  obtain ⟨s1, e1, rfl, w1⟩ := DataW.trod_string Tryz.underlying9 g1
  obtain rfl : c2 = .string s1 := by simpa using e1
  have g2 : DataW.trod enc Tryz.prog W 0 (fun _ => true) true m 73 ((([c0, c1, .string s1, c3, c4, c5] : List Value).drop 3).take (Tryz.prog.cellsOf 73)) = some y2 := hg 2 _ rfl
  rw [cel73] at g2
  obtain ⟨k2, q2, s2, e2, b2, b2', w2, m2⟩ := type_ofU g2
  obtain ⟨rfl, rfl, rfl⟩ : c3 = .int .i64 k2 ∧ c4 = .int .i64 q2 ∧ c5 = .string s2 := by simpa using e2
  refine ⟨[.row l0, .row l0', .str s1, .int k2, .int q2, .str s2], ⟨a0, a0', .str s1 w1, .int k2 b2.1 b2.2, .int q2 b2'.1 b2'.2, .str s2 w2, trivial⟩, .mk _ _ _ _ _ _ z0 z0', ?_⟩
  rw [hxe]
  simp only [mRow, mD, List.map_cons, List.map_nil, Rows.uptoBulk, Rows.uptoBulkAll]
  have el1 : s1.data.toList.length = s1.size := by rw [Array.length_toList]; rfl
  omega
set_option maxHeartbeats 1000000 in
theorem opensU_P (n : Nat) : OpensU enc W ShP 133 n := by
  intro cs x h
  obtain ⟨xs, m, rfl, hxe, hl, hlen, hg⟩ := DataW.trod_struct Tryz.underlying133 h
  rw [cel133] at hl
  have hlen' : xs.length = 3 := hlen
  clear hlen
  obtain ⟨c0, c1, c2, c3, c4, rfl⟩ := list5 hl
  obtain ⟨y0, y1, y2, rfl⟩ := list3 hlen'
  clear hl hlen' h
  have g0 : DataW.trod enc Tryz.prog W 0 (fun _ => true) true m 9 ((([c0, c1, c2, c3, c4] : List Value).drop 0).take (Tryz.prog.cellsOf 9)) = some y0 := hg 0 _ rfl
  rw [cel9] at g0
  obtain ⟨s0, e0, rfl, w0⟩ := DataW.trod_string Tryz.underlying9 g0
  obtain rfl : c0 = .string s0 := by simpa using e0
  have g1 : DataW.trod enc Tryz.prog W 0 (fun _ => true) true m 73 ((([.string s0, c1, c2, c3, c4] : List Value).drop 1).take (Tryz.prog.cellsOf 73)) = some y1 := hg 1 _ rfl
  rw [cel73] at g1
  obtain ⟨k1, q1, s1, e1, b1, b1', w1, m1⟩ := type_ofU g1
  obtain ⟨rfl, rfl, rfl⟩ : c1 = .int .i64 k1 ∧ c2 = .int .i64 q1 ∧ c3 = .string s1 := by simpa using e1
  have g2 : DataW.trod enc Tryz.prog W 0 (fun _ => true) true m 3 ((([.string s0, .int .i64 k1, .int .i64 q1, .string s1, c4] : List Value).drop 4).take (Tryz.prog.cellsOf 3)) = some y2 := hg 2 _ rfl
  rw [cel3] at g2
  obtain ⟨n2, e2, rfl, w2⟩ := DataW.trod_int Tryz.underlying3 g2
  obtain rfl : c4 = .int .i64 n2 := by simpa using e2
  have b2 := bounds_i64 w2
  refine ⟨[.str s0, .int k1, .int q1, .str s1, .int n2], ⟨.str s0 w0, .int k1 b1.1 b1.2, .int q1 b1'.1 b1'.2, .str s1 w1, .int n2 b2.1 b2.2, trivial⟩, .mk _ _ _ _ _ , ?_⟩
  rw [hxe]
  simp only [mRow, mD, List.map_cons, List.map_nil, Rows.uptoBulk, Rows.uptoBulkAll]
  have el0 : s0.data.toList.length = s0.size := by rw [Array.length_toList]; rfl
  omega
set_option maxHeartbeats 1000000 in
theorem opensU_S (n : Nat) : OpensU enc W ShS 84 n := by
  induction n using Nat.strongRecOn with
  | ind n ih =>
    intro cs x h
    obtain ⟨xs, m, rfl, hxe, hl, hlen, hg⟩ := DataW.trod_struct Tryz.underlying84 h
    rw [cel84] at hl
    have hlen' : xs.length = 11 := hlen
    clear hlen
    obtain ⟨c0, c1, c2, c3, c4, c5, c6, c7, c8, c9, c10, c11, c12, c13, c14, c15, rfl⟩ := list16 hl
    obtain ⟨y0, y1, y2, y3, y4, y5, y6, y7, y8, y9, y10, rfl⟩ := list11 hlen'
    clear hl hlen' h
    have g0 : DataW.trod enc Tryz.prog W 0 (fun _ => true) true m 59 ((([c0, c1, c2, c3, c4, c5, c6, c7, c8, c9, c10, c11, c12, c13, c14, c15] : List Value).drop 0).take (Tryz.prog.cellsOf 59)) = some y0 := hg 0 _ rfl
    rw [cel59] at g0
    obtain ⟨v0, v0', l0, l0', e0, a0, a0', z0, z0', m0⟩ := marks_ofU g0
    obtain ⟨rfl, rfl⟩ : c0 = v0 ∧ c1 = v0' := by simpa using e0
    have g1 : DataW.trod enc Tryz.prog W 0 (fun _ => true) true m 3 ((([c0, c1, c2, c3, c4, c5, c6, c7, c8, c9, c10, c11, c12, c13, c14, c15] : List Value).drop 2).take (Tryz.prog.cellsOf 3)) = some y1 := hg 1 _ rfl
    rw [cel3] at g1
    obtain ⟨n1, e1, rfl, w1⟩ := DataW.trod_int Tryz.underlying3 g1
    obtain rfl : c2 = .int .i64 n1 := by simpa using e1
    have b1 := bounds_i64 w1
    have g2 : DataW.trod enc Tryz.prog W 0 (fun _ => true) true m 9 ((([c0, c1, .int .i64 n1, c3, c4, c5, c6, c7, c8, c9, c10, c11, c12, c13, c14, c15] : List Value).drop 3).take (Tryz.prog.cellsOf 9)) = some y2 := hg 2 _ rfl
    rw [cel9] at g2
    obtain ⟨s2, e2, rfl, w2⟩ := DataW.trod_string Tryz.underlying9 g2
    obtain rfl : c3 = .string s2 := by simpa using e2
    have g3 : DataW.trod enc Tryz.prog W 0 (fun _ => true) true m 24 ((([c0, c1, .int .i64 n1, .string s2, c4, c5, c6, c7, c8, c9, c10, c11, c12, c13, c14, c15] : List Value).drop 4).take (Tryz.prog.cellsOf 24)) = some y3 := hg 3 _ rfl
    rw [cel24] at g3
    obtain ⟨d3, a3, z3, m3⟩ := opensU_E _ _ _ g3
    cases z3 with
    | mk xo xn xm xf xl xs' =>
      obtain ⟨a30, a31, a32, a33, a34, _⟩ := a3
      have g4 : DataW.trod enc Tryz.prog W 0 (fun _ => true) true m 22 ((([c0, c1, .int .i64 n1, .string s2, c4, c5, c6, c7, c8, c9, c10, c11, c12, c13, c14, c15] : List Value).drop 9).take (Tryz.prog.cellsOf 22)) = some y4 := hg 4 _ rfl
      rw [cel22] at g4
      obtain ⟨v4, l4, e4, a4, z4, m4⟩ := row_ofU Tryz.underlying22 cel24 (by omega) (fun _ h => ShE.ln h) g4 (fun j _ => opensU_E j)
      obtain rfl : c9 = v4 := by simpa using e4
      have g5 : DataW.trod enc Tryz.prog W 0 (fun _ => true) true m 4 ((([c0, c1, .int .i64 n1, .string s2, c4, c5, c6, c7, c8, c9, c10, c11, c12, c13, c14, c15] : List Value).drop 10).take (Tryz.prog.cellsOf 4)) = some y5 := hg 5 _ rfl
      rw [cel4] at g5
      obtain ⟨t5, e5, rfl⟩ := DataW.trod_bool Tryz.underlying4 g5
      obtain rfl : c10 = .bool t5 := by simpa using e5
      have g6 : DataW.trod enc Tryz.prog W 0 (fun _ => true) true m 4 ((([c0, c1, .int .i64 n1, .string s2, c4, c5, c6, c7, c8, c9, .bool t5, c11, c12, c13, c14, c15] : List Value).drop 11).take (Tryz.prog.cellsOf 4)) = some y6 := hg 6 _ rfl
      rw [cel4] at g6
      obtain ⟨t6, e6, rfl⟩ := DataW.trod_bool Tryz.underlying4 g6
      obtain rfl : c11 = .bool t6 := by simpa using e6
      have g7 : DataW.trod enc Tryz.prog W 0 (fun _ => true) true m 33 ((([c0, c1, .int .i64 n1, .string s2, c4, c5, c6, c7, c8, c9, .bool t5, .bool t6, c12, c13, c14, c15] : List Value).drop 12).take (Tryz.prog.cellsOf 33)) = some y7 := hg 7 _ rfl
      rw [cel33] at g7
      obtain ⟨v7, l7, e7, a7, z7, m7⟩ := row_ofU Tryz.underlying33 cel84 (by omega) (fun _ h => ShS.ln h) g7 (fun j hj => ih j (by omega))
      obtain rfl : c12 = v7 := by simpa using e7
      have g8 : DataW.trod enc Tryz.prog W 0 (fun _ => true) true m 33 ((([c0, c1, .int .i64 n1, .string s2, c4, c5, c6, c7, c8, c9, .bool t5, .bool t6, c12, c13, c14, c15] : List Value).drop 13).take (Tryz.prog.cellsOf 33)) = some y8 := hg 8 _ rfl
      rw [cel33] at g8
      obtain ⟨v8, l8, e8, a8, z8, m8⟩ := row_ofU Tryz.underlying33 cel84 (by omega) (fun _ h => ShS.ln h) g8 (fun j hj => ih j (by omega))
      obtain rfl : c13 = v8 := by simpa using e8
      have g9 : DataW.trod enc Tryz.prog W 0 (fun _ => true) true m 29 ((([c0, c1, .int .i64 n1, .string s2, c4, c5, c6, c7, c8, c9, .bool t5, .bool t6, c12, c13, c14, c15] : List Value).drop 14).take (Tryz.prog.cellsOf 29)) = some y9 := hg 9 _ rfl
      rw [cel29] at g9
      obtain ⟨v9, l9, e9, a9, z9, m9⟩ := row_ofU Tryz.underlying29 cel9 (by omega) (fun _ h => ShT.ln h) g9 (fun j _ => opensU_T j)
      obtain rfl : c14 = v9 := by simpa using e9
      have g10 : DataW.trod enc Tryz.prog W 0 (fun _ => true) true m 29 ((([c0, c1, .int .i64 n1, .string s2, c4, c5, c6, c7, c8, c9, .bool t5, .bool t6, c12, c13, c14, c15] : List Value).drop 15).take (Tryz.prog.cellsOf 29)) = some y10 := hg 10 _ rfl
      rw [cel29] at g10
      obtain ⟨v10, l10, e10, a10, z10, m10⟩ := row_ofU Tryz.underlying29 cel9 (by omega) (fun _ h => ShT.ln h) g10 (fun j _ => opensU_T j)
      obtain rfl : c15 = v10 := by simpa using e10
      refine ⟨[.row l0, .row l0', .int n1, .str s2, .int xo, .int xn, .str xm, .str xf, .row xl, .row l4, .bool t5, .bool t6, .row l7, .row l8, .row l9, .row l10], ⟨a0, a0', .int n1 b1.1 b1.2, .str s2 w2, a30, a31, a32, a33, a34, a4, .bool t5, .bool t6, a7, a8, a9, a10, trivial⟩, .mk _ _ _ _ _ _ _ _ _ _ _ _ _ _ _ _ z0 z0' xs' z4 z7 z8 z9 z10, ?_⟩
      rw [hxe]
      simp only [mRow, mD, List.map_cons, List.map_nil, Rows.uptoBulk, Rows.uptoBulkAll]
      have el2 : s2.data.toList.length = s2.size := by rw [Array.length_toList]; rfl
      simp only [mRow, mD] at m3
      omega
set_option maxHeartbeats 1000000 in
theorem opensU_R (n : Nat) : OpensU enc W ShR 80 n := by
  induction n using Nat.strongRecOn with
  | ind n ih =>
    intro cs x h
    obtain ⟨xs, m, rfl, hxe, hl, hlen, hg⟩ := DataW.trod_struct Tryz.underlying80 h
    rw [cel80] at hl
    have hlen' : xs.length = 8 := hlen
    clear hlen
    obtain ⟨c0, c1, c2, c3, c4, c5, c6, c7, c8, rfl⟩ := list9 hl
    obtain ⟨y0, y1, y2, y3, y4, y5, y6, y7, rfl⟩ := list8 hlen'
    clear hl hlen' h
    have g0 : DataW.trod enc Tryz.prog W 0 (fun _ => true) true m 59 ((([c0, c1, c2, c3, c4, c5, c6, c7, c8] : List Value).drop 0).take (Tryz.prog.cellsOf 59)) = some y0 := hg 0 _ rfl
    rw [cel59] at g0
    obtain ⟨v0, v0', l0, l0', e0, a0, a0', z0, z0', m0⟩ := marks_ofU g0
    obtain ⟨rfl, rfl⟩ : c0 = v0 ∧ c1 = v0' := by simpa using e0
    have g1 : DataW.trod enc Tryz.prog W 0 (fun _ => true) true m 9 ((([c0, c1, c2, c3, c4, c5, c6, c7, c8] : List Value).drop 2).take (Tryz.prog.cellsOf 9)) = some y1 := hg 1 _ rfl
    rw [cel9] at g1
    obtain ⟨s1, e1, rfl, w1⟩ := DataW.trod_string Tryz.underlying9 g1
    obtain rfl : c2 = .string s1 := by simpa using e1
    have g2 : DataW.trod enc Tryz.prog W 0 (fun _ => true) true m 3 ((([c0, c1, .string s1, c3, c4, c5, c6, c7, c8] : List Value).drop 3).take (Tryz.prog.cellsOf 3)) = some y2 := hg 2 _ rfl
    rw [cel3] at g2
    obtain ⟨n2, e2, rfl, w2⟩ := DataW.trod_int Tryz.underlying3 g2
    obtain rfl : c3 = .int .i64 n2 := by simpa using e2
    have b2 := bounds_i64 w2
    have g3 : DataW.trod enc Tryz.prog W 0 (fun _ => true) true m 78 ((([c0, c1, .string s1, .int .i64 n2, c4, c5, c6, c7, c8] : List Value).drop 4).take (Tryz.prog.cellsOf 78)) = some y3 := hg 3 _ rfl
    rw [cel78] at g3
    obtain ⟨v3, l3, e3, a3, z3, m3⟩ := row_ofU Tryz.underlying78 cel133 (by omega) (fun _ h => ShP.ln h) g3 (fun j _ => opensU_P j)
    obtain rfl : c4 = v3 := by simpa using e3
    have g4 : DataW.trod enc Tryz.prog W 0 (fun _ => true) true m 31 ((([c0, c1, .string s1, .int .i64 n2, c4, c5, c6, c7, c8] : List Value).drop 5).take (Tryz.prog.cellsOf 31)) = some y4 := hg 4 _ rfl
    rw [cel31] at g4
    obtain ⟨v4, l4, e4, a4, z4, m4⟩ := row_ofU Tryz.underlying31 cel75 (by omega) (fun _ h => ShV.ln h) g4 (fun j _ => opensU_V j)
    obtain rfl : c5 = v4 := by simpa using e4
    have g5 : DataW.trod enc Tryz.prog W 0 (fun _ => true) true m 32 ((([c0, c1, .string s1, .int .i64 n2, c4, c5, c6, c7, c8] : List Value).drop 6).take (Tryz.prog.cellsOf 32)) = some y5 := hg 5 _ rfl
    rw [cel32] at g5
    obtain ⟨v5, l5, e5, a5, z5, m5⟩ := row_ofU Tryz.underlying32 cel80 (by omega) (fun _ h => ShR.ln h) g5 (fun j hj => ih j (by omega))
    obtain rfl : c6 = v5 := by simpa using e5
    have g6 : DataW.trod enc Tryz.prog W 0 (fun _ => true) true m 33 ((([c0, c1, .string s1, .int .i64 n2, c4, c5, c6, c7, c8] : List Value).drop 7).take (Tryz.prog.cellsOf 33)) = some y6 := hg 6 _ rfl
    rw [cel33] at g6
    obtain ⟨v6, l6, e6, a6, z6, m6⟩ := row_ofU Tryz.underlying33 cel84 (by omega) (fun _ h => ShS.ln h) g6 (fun j _ => opensU_S j)
    obtain rfl : c7 = v6 := by simpa using e6
    have g7 : DataW.trod enc Tryz.prog W 0 (fun _ => true) true m 29 ((([c0, c1, .string s1, .int .i64 n2, c4, c5, c6, c7, c8] : List Value).drop 8).take (Tryz.prog.cellsOf 29)) = some y7 := hg 7 _ rfl
    rw [cel29] at g7
    obtain ⟨v7, l7, e7, a7, z7, m7⟩ := row_ofU Tryz.underlying29 cel9 (by omega) (fun _ h => ShT.ln h) g7 (fun j _ => opensU_T j)
    obtain rfl : c8 = v7 := by simpa using e7
    refine ⟨[.row l0, .row l0', .str s1, .int n2, .row l3, .row l4, .row l5, .row l6, .row l7], ⟨a0, a0', .str s1 w1, .int n2 b2.1 b2.2, a3, a4, a5, a6, a7, trivial⟩, .mk _ _ _ _ _ _ _ _ _ z0 z0' z3 z4 z5 z6 z7, ?_⟩
    rw [hxe]
    simp only [mRow, mD, List.map_cons, List.map_nil, Rows.uptoBulk, Rows.uptoBulkAll]
    have el1 : s1.data.toList.length = s1.size := by rw [Array.length_toList]; rfl
    omega
set_option maxHeartbeats 1000000 in
theorem opensU_G (n : Nat) : OpensU enc W ShG 35 n := by
  intro cs x h
  obtain ⟨xs, m, rfl, hxe, hl, hlen, hg⟩ := DataW.trod_struct Tryz.underlying35 h
  rw [cel35] at hl
  have hlen' : xs.length = 9 := hlen
  clear hlen
  obtain ⟨c0, c1, c2, c3, c4, c5, c6, c7, c8, rfl⟩ := list9 hl
  obtain ⟨y0, y1, y2, y3, y4, y5, y6, y7, y8, rfl⟩ := list9 hlen'
  clear hl hlen' h
  have g0 : DataW.trod enc Tryz.prog W 0 (fun _ => true) true m 9 ((([c0, c1, c2, c3, c4, c5, c6, c7, c8] : List Value).drop 0).take (Tryz.prog.cellsOf 9)) = some y0 := hg 0 _ rfl
  rw [cel9] at g0
  obtain ⟨s0, e0, rfl, w0⟩ := DataW.trod_string Tryz.underlying9 g0
  obtain rfl : c0 = .string s0 := by simpa using e0
  have g1 : DataW.trod enc Tryz.prog W 0 (fun _ => true) true m 29 ((([.string s0, c1, c2, c3, c4, c5, c6, c7, c8] : List Value).drop 1).take (Tryz.prog.cellsOf 29)) = some y1 := hg 1 _ rfl
  rw [cel29] at g1
  obtain ⟨v1, l1, e1, a1, z1, m1⟩ := row_ofU Tryz.underlying29 cel9 (by omega) (fun _ h => ShT.ln h) g1 (fun j _ => opensU_T j)
  obtain rfl : c1 = v1 := by simpa using e1
  have g2 : DataW.trod enc Tryz.prog W 0 (fun _ => true) true m 29 ((([.string s0, c1, c2, c3, c4, c5, c6, c7, c8] : List Value).drop 2).take (Tryz.prog.cellsOf 29)) = some y2 := hg 2 _ rfl
  rw [cel29] at g2
  obtain ⟨v2, l2, e2, a2, z2, m2⟩ := row_ofU Tryz.underlying29 cel9 (by omega) (fun _ h => ShT.ln h) g2 (fun j _ => opensU_T j)
  obtain rfl : c2 = v2 := by simpa using e2
  have g3 : DataW.trod enc Tryz.prog W 0 (fun _ => true) true m 29 ((([.string s0, c1, c2, c3, c4, c5, c6, c7, c8] : List Value).drop 3).take (Tryz.prog.cellsOf 29)) = some y3 := hg 3 _ rfl
  rw [cel29] at g3
  obtain ⟨v3, l3, e3, a3, z3, m3⟩ := row_ofU Tryz.underlying29 cel9 (by omega) (fun _ h => ShT.ln h) g3 (fun j _ => opensU_T j)
  obtain rfl : c3 = v3 := by simpa using e3
  have g4 : DataW.trod enc Tryz.prog W 0 (fun _ => true) true m 30 ((([.string s0, c1, c2, c3, c4, c5, c6, c7, c8] : List Value).drop 4).take (Tryz.prog.cellsOf 30)) = some y4 := hg 4 _ rfl
  rw [cel30] at g4
  obtain ⟨v4, l4, e4, a4, z4, m4⟩ := row_ofU Tryz.underlying30 cel62 (by omega) (fun _ h => ShC.ln h) g4 (fun j _ => opensU_C j)
  obtain rfl : c4 = v4 := by simpa using e4
  have g5 : DataW.trod enc Tryz.prog W 0 (fun _ => true) true m 31 ((([.string s0, c1, c2, c3, c4, c5, c6, c7, c8] : List Value).drop 5).take (Tryz.prog.cellsOf 31)) = some y5 := hg 5 _ rfl
  rw [cel31] at g5
  obtain ⟨v5, l5, e5, a5, z5, m5⟩ := row_ofU Tryz.underlying31 cel75 (by omega) (fun _ h => ShV.ln h) g5 (fun j _ => opensU_V j)
  obtain rfl : c5 = v5 := by simpa using e5
  have g6 : DataW.trod enc Tryz.prog W 0 (fun _ => true) true m 32 ((([.string s0, c1, c2, c3, c4, c5, c6, c7, c8] : List Value).drop 6).take (Tryz.prog.cellsOf 32)) = some y6 := hg 6 _ rfl
  rw [cel32] at g6
  obtain ⟨v6, l6, e6, a6, z6, m6⟩ := row_ofU Tryz.underlying32 cel80 (by omega) (fun _ h => ShR.ln h) g6 (fun j _ => opensU_R j)
  obtain rfl : c6 = v6 := by simpa using e6
  have g7 : DataW.trod enc Tryz.prog W 0 (fun _ => true) true m 33 ((([.string s0, c1, c2, c3, c4, c5, c6, c7, c8] : List Value).drop 7).take (Tryz.prog.cellsOf 33)) = some y7 := hg 7 _ rfl
  rw [cel33] at g7
  obtain ⟨v7, l7, e7, a7, z7, m7⟩ := row_ofU Tryz.underlying33 cel84 (by omega) (fun _ h => ShS.ln h) g7 (fun j _ => opensU_S j)
  obtain rfl : c7 = v7 := by simpa using e7
  have g8 : DataW.trod enc Tryz.prog W 0 (fun _ => true) true m 29 ((([.string s0, c1, c2, c3, c4, c5, c6, c7, c8] : List Value).drop 8).take (Tryz.prog.cellsOf 29)) = some y8 := hg 8 _ rfl
  rw [cel29] at g8
  obtain ⟨v8, l8, e8, a8, z8, m8⟩ := row_ofU Tryz.underlying29 cel9 (by omega) (fun _ h => ShT.ln h) g8 (fun j _ => opensU_T j)
  obtain rfl : c8 = v8 := by simpa using e8
  refine ⟨[.str s0, .row l1, .row l2, .row l3, .row l4, .row l5, .row l6, .row l7, .row l8], ⟨.str s0 w0, a1, a2, a3, a4, a5, a6, a7, a8, trivial⟩, .mk _ _ _ _ _ _ _ _ _ z1 z2 z3 z4 z5 z6 z7 z8, ?_⟩
  rw [hxe]
  simp only [mRow, mD, List.map_cons, List.map_nil, Rows.uptoBulk, Rows.uptoBulkAll]
  have el0 : s0.data.toList.length = s0.size := by rw [Array.length_toList]; rfl
  omega
end
end Go.Proofs.YtciijpahjjoppaaGreat
end
section
namespace Go.Proofs.YtciijpahjjoppaaGreat
open Go.RowKit Go.Deep Go.Maps

def okName (d : Int) (s : ByteArray) : Bool := decide (chk s = 0) && !isIn s (wordsOf d)
set_option maxRecDepth 100000 in
set_option maxHeartbeats 1000000 in
theorem cname_any (d ar : Int) (s : ByteArray) (w : World) (hs : s.size ≤ maxLen) : Calls Tryz.prog 67 #[.agg #[.int .i64 d, .int .i64 ar], .string s] w fun e w' => e = .returned (.bool (okName d s)) ∧ Below w.heap.size w w' := by
  have HC := Lib.hid (check_any s (w.alloc (.cells #[.int .i64 d, .int .i64 ar] 51)) hs)
  by_cases h0 : chk s = 0
  · have HO := Lib.hid (show okName d s = !isIn s (wordsOf d) by unfold okName; rw [h0]; simp)
    go_enter Tryz.func67, Tryz.ntmps67
    go_wp2_with fail
    refine HC.out.mono ?_
    rw [h0]
    rintro e w' ⟨rfl, rfl⟩
    go_wp2_with fail
    refine (is_any d s _).mono ?_
    rintro e w1 ⟨rfl, b1⟩
    have B1 := Lib.hid (((Below.refl w.heap.size w).alloc (Nat.le_refl _) (.cells #[.int .i64 d, .int .i64 ar] 51)).trans (b1.mono (by simp)))
    clear b1
    generalize hr : isIn s (wordsOf d) = r
    rw [hr] at HO
    go_wp2_with fail
    go_ret
    exact ⟨by rw [HO.out]; rfl, B1.out⟩
  · have HO := Lib.hid (show okName d s = false by unfold okName; simp [h0])
    have h1 : (((chk s : Nat) : Int) == 0) = false := by simpa using h0
    go_enter Tryz.func67, Tryz.ntmps67
    go_wp2_with fail
    refine HC.out.mono ?_
    rintro e w' ⟨rfl, rfl⟩
    go_wp2_with fail
    go_ret
    exact ⟨by rw [HO.out]; rfl, (Below.refl w.heap.size w).alloc (Nat.le_refl _) _⟩
theorem allNil_69 (f : Value) (w : World) : Calls Tryz.prog 69 #[.slice none 0 0, f] w fun e w' => e = .returned (.bool true) ∧ w = w' := by
  go_enter Tryz.func69, Tryz.ntmps69
  go_wp2_with fail
  go_loop [12] (fun i => i = .int .i64 0) (fun _ => 0)
  case atStart => rfl
  case round =>
    subst hrel
    go_wp2_with fail
    go_ret
    exact ⟨rfl, rfl⟩
theorem allNil_71 (f : Value) (w : World) : Calls Tryz.prog 71 #[.slice none 0 0, f] w fun e w' => e = .returned (.bool true) ∧ w = w' := by
  go_enter Tryz.func71, Tryz.ntmps71
  go_wp2_with fail
  go_loop [12] (fun i => i = .int .i64 0) (fun _ => 0)
  case atStart => rfl
  case round =>
    subst hrel
    go_wp2_with fail
    go_ret
    exact ⟨rfl, rfl⟩
theorem allNil_74 (f : Value) (w : World) : Calls Tryz.prog 74 #[.slice none 0 0, f] w fun e w' => e = .returned (.bool true) ∧ w = w' := by
  go_enter Tryz.func74, Tryz.ntmps74
  go_wp2_with fail
  go_loop [12] (fun i => i = .int .i64 0) (fun _ => 0)
  case atStart => rfl
  case round =>
    subst hrel
    go_wp2_with fail
    go_ret
    exact ⟨rfl, rfl⟩
theorem allNil_103 (f : Value) (w : World) : Calls Tryz.prog 103 #[.slice none 0 0, f] w fun e w' => e = .returned (.bool true) ∧ w = w' := by
  go_enter Tryz.func103, Tryz.ntmps103
  go_wp2_with fail
  go_loop [12] (fun i => i = .int .i64 0) (fun _ => 0)
  case atStart => rfl
  case round =>
    subst hrel
    go_wp2_with fail
    go_ret
    exact ⟨rfl, rfl⟩
theorem allNil_109 (f : Value) (w : World) : Calls Tryz.prog 109 #[.slice none 0 0, f] w fun e w' => e = .returned (.bool true) ∧ w = w' := by
  go_enter Tryz.func109, Tryz.ntmps109
  go_wp2_with fail
  go_loop [12] (fun i => i = .int .i64 0) (fun _ => 0)
  case atStart => rfl
  case round =>
    subst hrel
    go_wp2_with fail
    go_ret
    exact ⟨rfl, rfl⟩
theorem ownNil (w : World) : Calls Tryz.prog 111 #[.slice none 0 0] w fun e w' => e = .returned (.bool true) ∧ Below w.heap.size w w' := by
  have hmm := @run_makeMap Tryz.prog
  go_enter Tryz.func111, Tryz.ntmps111
  go_wp2_with fail
  go_loopw [9] (fun i wr => i = .int .i64 0 ∧ SetAt wr w.heap.size 0 (setD []) ∧ Below w.heap.size w wr) (fun _ _ => 0)
  case atStart => exact ⟨rfl, World.ownsMap_made _ _ _ _, (Below.refl _ _).alloc (Nat.le_refl _) _⟩
  case round =>
    obtain ⟨rfl, hO, hB⟩ := hrel
    have HO := Lib.hid hO
    have HB := Lib.hid hB
    clear hO hB
    go_wp2_with (first | (at_len; refine wpList_len_own _ rfl _ 92 rfl 9 93 under92 _ w.heap.size 0 (setD []) rfl HO.out ?_))
    go_ret
    exact ⟨rfl, HB.out⟩
set_option maxRecDepth 100000 in
set_option maxHeartbeats 1000000 in
theorem routinesNil (d ar : Int) (w : World) : Calls Tryz.prog 73 #[.agg #[.int .i64 d, .int .i64 ar], .slice none 0 0] w fun e w' => e = .returned (.bool true) ∧ Below w.heap.size w w' := by
  go_enter Tryz.func73, Tryz.ntmps73
  go_wp2_with fail
  refine (allNil_109 _ _).mono ?_
  rintro e w1 ⟨rfl, rfl⟩
  go_wp2_with fail
  refine (ownNil _).mono ?_
  rintro e w2 ⟨rfl, b2⟩
  have B2 := Lib.hid (((Below.refl w.heap.size w).alloc (Nat.le_refl _) (.cells #[.int .i64 d, .int .i64 ar] 51)).trans (b2.mono (by simp)))
  clear b2
  go_wp2_with fail
  go_ret
  exact ⟨rfl, B2.out⟩
set_option maxRecDepth 100000 in
set_option maxHeartbeats 1000000 in
theorem notesNil (d ar : Int) (b : Nat) (w : World) (hb : b < w.heap.size) (hc : ∀ j, j < 4 → w.cell? ⟨b, j, none⟩ = some (.slice none 0 0)) : Calls Tryz.prog 68 #[.agg #[.int .i64 d, .int .i64 ar], .slice (some ⟨b, 0, none⟩) 4 4] w fun e w' => e = .returned (.bool true) ∧ Below w.heap.size w w' := by
  have HC := Lib.hid hc
  clear hc
  go_enter Tryz.func68, Tryz.ntmps68
  go_wp2_with fail
  go_loopw [9] (fun i wr => ∃ k : Nat, k ≤ 4 ∧ i = .int .i64 k ∧ wr.heap[w.heap.size]? = some (.cells #[.int .i64 d, .int .i64 ar] 51) ∧ Below w.heap.size w wr) (fun i _ => 4 - (intOf i).toNat)
  case atStart => exact ⟨0, by omega, rfl, heap_new _ _, (Below.refl _ _).alloc (Nat.le_refl _) _⟩
  case round =>
    obtain ⟨k, hk, rfl, hbx, hB⟩ := hrel
    have HB := Lib.hid hB
    have HX := Lib.hid hbx
    have cx := box_cells hbx
    clear hB hbx
    by_cases hlt : k < 4
    · have ck : wr.cell? ⟨b, k, none⟩ = some (.slice none 0 0) := (HB.out.cell (p := ⟨b, k, none⟩) hb).trans (HC.out k hlt)
      go_wp2_with fail
      refine (allNil_103 _ _).mono ?_
      rintro e w1 ⟨rfl, rfl⟩
      go_wp2_with fail
      go_roundw
      case rel => exact ⟨k + 1, by omega, by go_num, HX.out, HB.out⟩
      case measure => simp [intOf]; omega
    · obtain rfl : k = 4 := by omega
      go_wp2_with fail
      go_ret
      exact ⟨rfl, HB.out⟩
set_option maxRecDepth 100000 in
set_option maxHeartbeats 2000000 in
theorem programEmp (d ar : Int) (nm : ByteArray) (w : World) (hn : nm.size ≤ maxLen) : Calls Tryz.prog 28 #[.agg #[.int .i64 d, .int .i64 ar], .agg #[.string nm, .slice none 0 0, .slice none 0 0, .slice none 0 0, .slice none 0 0, .slice none 0 0, .slice none 0 0, .slice none 0 0, .slice none 0 0]] w fun e w' => e = .returned (.bool (okName d nm)) ∧ Below w.heap.size w w' := by
  have HN := Lib.hid hn
  clear hn
  have R0 := Lib.hid (((Below.refl w.heap.size w).alloc (Nat.le_refl _) (.cells #[.int .i64 d, .int .i64 ar] 51)).alloc (by simp) (.cells #[.string nm, .slice none 0 0, .slice none 0 0, .slice none 0 0, .slice none 0 0, .slice none 0 0, .slice none 0 0, .slice none 0 0, .slice none 0 0] 35))
  have KA0 := Lib.hid (box_first w (.cells #[.int .i64 d, .int .i64 ar] 51) (.cells #[.string nm, .slice none 0 0, .slice none 0 0, .slice none 0 0, .slice none 0 0, .slice none 0 0, .slice none 0 0, .slice none 0 0, .slice none 0 0] 35))
  have KB0 := Lib.hid (box_second w (.cells #[.int .i64 d, .int .i64 ar] 51) (.cells #[.string nm, .slice none 0 0, .slice none 0 0, .slice none 0 0, .slice none 0 0, .slice none 0 0, .slice none 0 0, .slice none 0 0, .slice none 0 0] 35))
  go_enter Tryz.func28, Tryz.ntmps28
  go_wp2_with fail
  refine (cname_any d ar nm _ HN.out).mono ?_
  rintro e w1 ⟨rfl, b1⟩
  have R1 := Lib.hid (R0.out.trans (b1.mono R0.out.size))
  have KA1 := Lib.hid ((b1.block _ (heap_lt KA0.out)).trans KA0.out)
  have KB1 := Lib.hid ((b1.block _ (heap_lt KB0.out)).trans KB0.out)
  have cA1 := box_cells KA1.out
  have cB1 := box_cells KB1.out
  clear b1
  cases hok : okName d nm with
  | false =>
    go_wp2_with fail
    go_ret
    exact ⟨by first | rfl | (rw [hok]; rfl), R1.out⟩
  | true =>
    go_wp2_with fail
    have A2 := (Below.refl w1.heap.size w1).alloc (Nat.le_refl _) (.cells #[.slice none 0 0, .slice none 0 0, .slice none 0 0, .slice none 0 0] 29)
    refine (notesNil d ar w1.heap.size _ (by simp) (fun j hj => by
      rw [box_cells (heap_new w1 _)]
      match j, hj with
      | 0, _ => rfl
      | 1, _ => rfl
      | 2, _ => rfl
      | 3, _ => rfl)).mono ?_
    rintro e w2 ⟨rfl, b2⟩
    have b2' := A2.trans (b2.mono A2.size)
    have R2 := Lib.hid (R1.out.trans (b2'.mono R1.out.size))
    have KA2 := Lib.hid ((b2'.block _ (heap_lt KA1.out)).trans KA1.out)
    have KB2 := Lib.hid ((b2'.block _ (heap_lt KB1.out)).trans KB1.out)
    have cA2 := box_cells KA2.out
    have cB2 := box_cells KB2.out
    clear b2 b2' A2 cA1 cB1
    go_wp2_with fail
    refine (allNil_69 _ _).mono ?_
    rintro e w3 ⟨rfl, rfl⟩
    go_wp2_with fail
    refine (allNil_71 _ _).mono ?_
    rintro e w3 ⟨rfl, rfl⟩
    go_wp2_with fail
    refine (routinesNil d ar _).mono ?_
    rintro e w3 ⟨rfl, b3⟩
    have R3 := Lib.hid (R2.out.trans (b3.mono R2.out.size))
    have KA3 := Lib.hid ((b3.block _ (heap_lt KA2.out)).trans KA2.out)
    have KB3 := Lib.hid ((b3.block _ (heap_lt KB2.out)).trans KB2.out)
    have cA3 := box_cells KA3.out
    have cB3 := box_cells KB3.out
    clear b3 cA2 cB2
    go_wp2_with fail
    refine (allNil_74 _ _).mono ?_
    rintro e w4 ⟨rfl, rfl⟩
    go_wp2_with fail
    go_ret
    exact ⟨by first | rfl | (rw [hok]; rfl), R3.out⟩
theorem told_yes (w : World) : Calls Tryz.prog 23 #[.bool true] w fun e w' => e = .returned (.int .i64 0) ∧ w = w' := by
  go_enter Tryz.func23, Tryz.ntmps23
  go_wp2_with fail
  go_ret
  exact ⟨rfl, rfl⟩
theorem told_no (w : World) : Calls Tryz.prog 23 #[.bool false] w fun e w' => e = .returned (.int .i64 1) ∧ w = w' := by
  go_enter Tryz.func23, Tryz.ntmps23
  go_wp2_with fail
  go_ret
  exact ⟨rfl, rfl⟩
def knows (d : Int) : Bool := d == 0 || d == 1
theorem knows_any (d ar : Int) (w : World) : Calls Tryz.prog 24 #[.agg #[.int .i64 d, .int .i64 ar]] w fun e w' => e = .returned (.bool (knows d)) ∧ w' = w.alloc (.cells #[.int .i64 d, .int .i64 ar] 51) := by
  unfold knows
  cases h0 : d == 0 with
  | true =>
    go_enter Tryz.func24, Tryz.ntmps24
    go_wp2_with fail
    go_ret
    exact ⟨rfl, rfl⟩
  | false =>
    cases h1 : d == 1 <;>
    · go_enter Tryz.func24, Tryz.ntmps24
      go_wp2_with fail
      go_ret
      exact ⟨rfl, rfl⟩
set_option maxRecDepth 100000 in
set_option maxHeartbeats 2000000 in
theorem checkEmp_yes (nm : ByteArray) (w : World) (hn : nm.size ≤ maxLen) (hok : okName 0 nm = true) : Calls Tryz.prog 12 #[.int .i64 0, .agg #[.string nm, .slice none 0 0, .slice none 0 0, .slice none 0 0, .slice none 0 0, .slice none 0 0, .slice none 0 0, .slice none 0 0, .slice none 0 0]] w fun e w' => e = .returned (.int .i64 0) ∧ Below w.heap.size w w' := by
  have HN := Lib.hid hn
  have HOK := Lib.hid hok
  clear hn hok
  have R0 := Lib.hid (((Below.refl w.heap.size w).alloc (Nat.le_refl _) (.cells #[.string nm, .slice none 0 0, .slice none 0 0, .slice none 0 0, .slice none 0 0, .slice none 0 0, .slice none 0 0, .slice none 0 0, .slice none 0 0] 35)).alloc (by simp) (.cells #[.int .i64 0, .int .i64 0] 51))
  have KA0 := Lib.hid (box_first w (.cells #[.string nm, .slice none 0 0, .slice none 0 0, .slice none 0 0, .slice none 0 0, .slice none 0 0, .slice none 0 0, .slice none 0 0, .slice none 0 0] 35) (.cells #[.int .i64 0, .int .i64 0] 51))
  have KB0 := Lib.hid (box_second w (.cells #[.string nm, .slice none 0 0, .slice none 0 0, .slice none 0 0, .slice none 0 0, .slice none 0 0, .slice none 0 0, .slice none 0 0, .slice none 0 0] 35) (.cells #[.int .i64 0, .int .i64 0] 51))
  go_enter Tryz.func12, Tryz.ntmps12
  go_wp2_with fail
  refine (knows_any 0 0 _).mono ?_
  rintro e w1 ⟨rfl, hw1⟩
  have b1 : Below ((w.alloc (.cells #[.string nm, .slice none 0 0, .slice none 0 0, .slice none 0 0, .slice none 0 0, .slice none 0 0, .slice none 0 0, .slice none 0 0, .slice none 0 0] 35)).alloc (.cells #[.int .i64 0, .int .i64 0] 51)).heap.size ((w.alloc (.cells #[.string nm, .slice none 0 0, .slice none 0 0, .slice none 0 0, .slice none 0 0, .slice none 0 0, .slice none 0 0, .slice none 0 0, .slice none 0 0] 35)).alloc (.cells #[.int .i64 0, .int .i64 0] 51)) w1 := by rw [hw1]; exact (Below.refl _ _).alloc (Nat.le_refl _) _
  have R1 := Lib.hid (R0.out.trans (b1.mono R0.out.size))
  have KA1 := Lib.hid ((b1.block _ (heap_lt KA0.out)).trans KA0.out)
  have KB1 := Lib.hid ((b1.block _ (heap_lt KB0.out)).trans KB0.out)
  have cA1 := box_cells KA1.out
  have cB1 := box_cells KB1.out
  have hk : knows 0 = true := rfl
  rw [hk]
  clear b1 hw1
  go_wp2_with fail
  refine (programEmp 0 0 nm _ HN.out).mono ?_
  rw [HOK.out]
  rintro e w2 ⟨rfl, b2⟩
  have R2 := Lib.hid (R1.out.trans (b2.mono R1.out.size))
  clear b2 cA1 cB1
  go_wp2_with fail
  refine (told_yes _).mono ?_
  rintro e w3 ⟨rfl, rfl⟩
  go_wp2_with fail
  go_ret
  exact ⟨rfl, R2.out⟩
set_option maxRecDepth 100000 in
set_option maxHeartbeats 2000000 in
theorem checkEmp_no (nm : ByteArray) (w : World) (hn : nm.size ≤ maxLen) (hok : okName 0 nm = false) : Calls Tryz.prog 12 #[.int .i64 0, .agg #[.string nm, .slice none 0 0, .slice none 0 0, .slice none 0 0, .slice none 0 0, .slice none 0 0, .slice none 0 0, .slice none 0 0, .slice none 0 0]] w fun e w' => e = .returned (.int .i64 1) ∧ Below w.heap.size w w' := by
  have HN := Lib.hid hn
  have HOK := Lib.hid hok
  clear hn hok
  have R0 := Lib.hid (((Below.refl w.heap.size w).alloc (Nat.le_refl _) (.cells #[.string nm, .slice none 0 0, .slice none 0 0, .slice none 0 0, .slice none 0 0, .slice none 0 0, .slice none 0 0, .slice none 0 0, .slice none 0 0] 35)).alloc (by simp) (.cells #[.int .i64 0, .int .i64 0] 51))
  have KA0 := Lib.hid (box_first w (.cells #[.string nm, .slice none 0 0, .slice none 0 0, .slice none 0 0, .slice none 0 0, .slice none 0 0, .slice none 0 0, .slice none 0 0, .slice none 0 0] 35) (.cells #[.int .i64 0, .int .i64 0] 51))
  have KB0 := Lib.hid (box_second w (.cells #[.string nm, .slice none 0 0, .slice none 0 0, .slice none 0 0, .slice none 0 0, .slice none 0 0, .slice none 0 0, .slice none 0 0, .slice none 0 0] 35) (.cells #[.int .i64 0, .int .i64 0] 51))
  go_enter Tryz.func12, Tryz.ntmps12
  go_wp2_with fail
  refine (knows_any 0 0 _).mono ?_
  rintro e w1 ⟨rfl, hw1⟩
  have b1 : Below ((w.alloc (.cells #[.string nm, .slice none 0 0, .slice none 0 0, .slice none 0 0, .slice none 0 0, .slice none 0 0, .slice none 0 0, .slice none 0 0, .slice none 0 0] 35)).alloc (.cells #[.int .i64 0, .int .i64 0] 51)).heap.size ((w.alloc (.cells #[.string nm, .slice none 0 0, .slice none 0 0, .slice none 0 0, .slice none 0 0, .slice none 0 0, .slice none 0 0, .slice none 0 0, .slice none 0 0] 35)).alloc (.cells #[.int .i64 0, .int .i64 0] 51)) w1 := by rw [hw1]; exact (Below.refl _ _).alloc (Nat.le_refl _) _
  have R1 := Lib.hid (R0.out.trans (b1.mono R0.out.size))
  have KA1 := Lib.hid ((b1.block _ (heap_lt KA0.out)).trans KA0.out)
  have KB1 := Lib.hid ((b1.block _ (heap_lt KB0.out)).trans KB0.out)
  have cA1 := box_cells KA1.out
  have cB1 := box_cells KB1.out
  have hk : knows 0 = true := rfl
  rw [hk]
  clear b1 hw1
  go_wp2_with fail
  refine (programEmp 0 0 nm _ HN.out).mono ?_
  rw [HOK.out]
  rintro e w2 ⟨rfl, b2⟩
  have R2 := Lib.hid (R1.out.trans (b2.mono R1.out.size))
  clear b2 cA1 cB1
  go_wp2_with fail
  refine (told_no _).mono ?_
  rintro e w3 ⟨rfl, rfl⟩
  go_wp2_with fail
  go_ret
  exact ⟨rfl, R2.out⟩
end Go.Proofs.YtciijpahjjoppaaGreat
end
section
namespace Go.Proofs.YtciijpahjjoppaaGreat
open Go.RowKit Go.Deep
/-- A function that says of the elements of a row whether they are right. -/
def OkFn (w0 : World) (g : Nat) (c : Value) (l : List (List D)) (f : List D → Bool) : Prop := ∀ x ∈ l, ∀ vs, AllAt w0 vs x → ∀ W, Below w0.heap.size w0 W → Calls Tryz.prog g #[c, .agg ⟨vs⟩] W fun e W' => e = .returned (.bool (f x)) ∧ Below W.heap.size W W'
def okAll (l : List (List D)) (f : List D → Bool) : Bool := decide (l.length ≤ 512) && l.all f
theorem okAll_long {l : List (List D)} {f : List D → Bool} (h : 512 < l.length) : okAll l f = false := by
  unfold okAll
  rw [decide_eq_false (by omega)]
  rfl
theorem okAll_bad {l : List (List D)} {f : List D → Bool} {k : Nat} {x : List D} (hx : l[k]? = some x) (h : f x = false) : okAll l f = false := by
  unfold okAll
  have : l.all f = false := by
    rw [List.all_eq_false]
    exact ⟨x, List.mem_of_getElem? hx, by simp [h]⟩
  rw [this, Bool.and_false]
theorem okAll_good {l : List (List D)} {f : List D → Bool} (hl : l.length ≤ 512) (h : (l.take l.length).all f = true) : okAll l f = true := by
  rw [List.take_length] at h
  unfold okAll
  rw [h, decide_eq_true hl]
  rfl
theorem all_take_succ {l : List (List D)} {f : List D → Bool} {k : Nat} {x : List D} (hx : l[k]? = some x) (h : (l.take k).all f = true) (hf : f x = true) : (l.take (k + 1)).all f = true := by
  rw [List.take_add_one, hx, List.all_append, h]
  simpa using hf
end Go.Proofs.YtciijpahjjoppaaGreat
end
section
namespace Go.Proofs.YtciijpahjjoppaaGreat
open Go.RowKit Go.Deep Go.Maps

def wthn (n a b : Int) : Bool := decide (a ≤ n) && decide (n ≤ b)
theorem within_any (n a b : Int) (w : World) : Calls Tryz.prog 100 #[.int .i64 n, .int .i64 a, .int .i64 b] w fun e w' => e = .returned (.bool (wthn n a b)) ∧ w = w' := by
  unfold wthn
  cases h0 : decide (a ≤ n) <;> cases h1 : decide (n ≤ b) <;>
  · go_enter Tryz.func100, Tryz.ntmps100
    go_wp2_with fail
    go_ret
    exact ⟨rfl, rfl⟩
theorem tooDeep_any (d ar : Int) (w : World) : Calls Tryz.prog 60 #[.agg #[.int .i64 d, .int .i64 ar]] w fun e w' => e = .returned (.bool (decide ((48 : Int) ≤ ar))) ∧ w' = w.alloc (.cells #[.int .i64 d, .int .i64 ar] 51) := by
  cases h0 : decide ((48 : Int) ≤ ar) <;>
  · go_enter Tryz.func60, Tryz.ntmps60
    go_wp2_with fail
    go_ret
    exact ⟨rfl, rfl⟩
theorem deeper_any (d : Int) (ar : Nat) (w : World) (har : ar < 100000) : Calls Tryz.prog 65 #[.agg #[.int .i64 d, .int .i64 ar]] w fun e w' => e = .returned (.agg #[.int .i64 d, .int .i64 ((ar + 1 : Nat) : Int)]) ∧ Below w.heap.size w w' := by
  have R1 := Lib.hid (((Below.refl w.heap.size w).alloc (Nat.le_refl _) (.cells #[.int .i64 d, .int .i64 ar] 51)).alloc (by simp) (.cells #[.int .i64 d, .int .i64 ((ar + 1 : Nat) : Int)] 51))
  go_enter Tryz.func65, Tryz.ntmps65
  go_wp2_with fail
  refine bodyPost_ret (v := .agg ⟨[.int .i64 d, .int .i64 ((ar : Int) + 1)]⟩) ?_ rfl ?_
  · exact results_cell (i := 2) (b := w.heap.size + 1) Tryz.results65 Tryz.isAgg51 Tryz.sizeOf51 rfl rfl (by simpa using heap_new (w.alloc (.cells #[.int .i64 d, .int .i64 ar] 51)) (.cells #[.int .i64 d, .int .i64 ((ar : Int) + 1)] 51))
  · exact ⟨rfl, R1.out⟩
def nameW (d : Int) (k : Bool) (s : ByteArray) : Bool := if k then okName d s else s.toList.isEmpty
set_option maxRecDepth 100000 in
set_option maxHeartbeats 1000000 in
theorem nameWhere_any (d ar : Int) (k : Bool) (s : ByteArray) (w : World) (hs : s.size ≤ maxLen) : Calls Tryz.prog 63 #[.agg #[.int .i64 d, .int .i64 ar], .bool k, .string s] w fun e w' => e = .returned (.bool (nameW d k s)) ∧ Below w.heap.size w w' := by
  have R1 := Lib.hid ((Below.refl w.heap.size w).alloc (Nat.le_refl _) (.cells #[.int .i64 d, .int .i64 ar] 51))
  cases k with
  | true =>
    rw [show nameW d true s = okName d s from rfl]
    go_enter Tryz.func63, Tryz.ntmps63
    go_wp2_with fail
    refine (cname_any d ar s _ hs).mono ?_
    rintro e w1 ⟨rfl, b1⟩
    have B1 := Lib.hid (R1.out.trans (b1.mono (by simp)))
    clear b1
    generalize hr : okName d s = r
    go_wp2_with fail
    go_ret
    exact ⟨by rw [hr]; rfl, B1.out⟩
  | false =>
    rw [show nameW d false s = s.toList.isEmpty from rfl]
    go_enter Tryz.func63, Tryz.ntmps63
    go_wp2_with fail
    go_ret
    exact ⟨rfl, R1.out⟩
theorem results_cell2 {fn : Func} {tmps : Array Value} {w : World} {i j : Nat} {T : TypeId} {k : Nat} (hres : fn.results = #[.cell i T, .tmp j]) (hag : ∀ w, (isAgg T).run Tryz.prog w = .ok true w) (hsz : ∀ w, (sizeOf T).run Tryz.prog w = .ok k w) {b : Nat} (ht : tmps.getD i undef = .pointer (some ⟨b, 0, none⟩)) {vs : List Value} {T' : TypeId} {fz : Nat × Nat} (hlen : vs.length = k) (hb : w.heap[b]? = some (.cells ⟨vs⟩ T' fz)) {u : Value} (hu : tmps.getD j undef = u) :
    (results fn tmps).run Tryz.prog w = .ok (.tuple #[.agg ⟨vs⟩, u]) w := by
  have h := run_loadCells_list (P := Tryz.prog) (w := w) ⟨b, 0, none⟩ vs (fun j v hv => by
    rw [add_mid2, Nat.zero_add, box_cells hb]
    simpa using hv)
  rw [hlen] at h
  rw [Array.getD_eq_getD_getElem?] at ht hu
  unfold results
  simp [hres, ht, hu, loadVar, asAddr, hag, hsz, h, Sem.run_bind]
def fmost (op : Int) : Int := if op = 1 then 9223372036854775807 else if op = 2 then 1 else if op = 3 then 255 else 0
def fname (op : Int) : Bool := decide (op = 4 ∨ op = 5 ∨ op = 6)
def ffield (op : Int) : Bool := decide (op = 6)
def fops (op : Int) : Int := if op = 1 ∨ op = 2 ∨ op = 3 ∨ op = 4 ∨ op = 6 then 0 else if op = 5 ∨ op = 8 ∨ op = 9 then 1 else 2
def fok (op : Int) : Bool := decide (op = 1 ∨ op = 2 ∨ op = 3 ∨ op = 4 ∨ op = 5 ∨ op = 6 ∨ op = 8 ∨ op = 9) || wthn op 10 24
def FormPost (op : Int) (w : World) (e : Ending) (w' : World) : Prop := e = .returned (.tuple #[.agg #[.int .i64 (fmost op), .bool (fname op), .bool (ffield op), .int .i64 (fops op)], .bool (fok op)]) ∧ Below w.heap.size w w'
set_option maxRecDepth 100000 in
theorem exprForm_1 (w : World) : Calls Tryz.prog 62 #[.int .i64 1] w (FormPost 1 w) := by
  have R1 := Lib.hid ((Below.refl w.heap.size w).alloc (Nat.le_refl _) (.cells #[.int .i64 (fmost 1), .bool (fname 1), .bool (ffield 1), .int .i64 (fops 1)] 110))
  go_enter Tryz.func62, Tryz.ntmps62
  go_wp2_with fail
  refine bodyPost_ret (v := .tuple #[.agg ⟨[.int .i64 (fmost 1), .bool (fname 1), .bool (ffield 1), .int .i64 (fops 1)]⟩, .bool true]) ?_ rfl ?_
  · exact results_cell2 (i := 2) (j := 3) (b := w.heap.size) Tryz.results62 Tryz.isAgg110 Tryz.sizeOf110 rfl rfl (heap_new w (.cells #[.int .i64 (fmost 1), .bool (fname 1), .bool (ffield 1), .int .i64 (fops 1)] 110)) rfl
  · exact ⟨rfl, R1.out⟩
set_option maxRecDepth 100000 in
theorem exprForm_2 (w : World) : Calls Tryz.prog 62 #[.int .i64 2] w (FormPost 2 w) := by
  have R1 := Lib.hid ((Below.refl w.heap.size w).alloc (Nat.le_refl _) (.cells #[.int .i64 (fmost 2), .bool (fname 2), .bool (ffield 2), .int .i64 (fops 2)] 110))
  go_enter Tryz.func62, Tryz.ntmps62
  go_wp2_with fail
  refine bodyPost_ret (v := .tuple #[.agg ⟨[.int .i64 (fmost 2), .bool (fname 2), .bool (ffield 2), .int .i64 (fops 2)]⟩, .bool true]) ?_ rfl ?_
  · exact results_cell2 (i := 2) (j := 3) (b := w.heap.size) Tryz.results62 Tryz.isAgg110 Tryz.sizeOf110 rfl rfl (heap_new w (.cells #[.int .i64 (fmost 2), .bool (fname 2), .bool (ffield 2), .int .i64 (fops 2)] 110)) rfl
  · exact ⟨rfl, R1.out⟩
set_option maxRecDepth 100000 in
theorem exprForm_3 (w : World) : Calls Tryz.prog 62 #[.int .i64 3] w (FormPost 3 w) := by
  have R1 := Lib.hid ((Below.refl w.heap.size w).alloc (Nat.le_refl _) (.cells #[.int .i64 (fmost 3), .bool (fname 3), .bool (ffield 3), .int .i64 (fops 3)] 110))
  go_enter Tryz.func62, Tryz.ntmps62
  go_wp2_with fail
  refine bodyPost_ret (v := .tuple #[.agg ⟨[.int .i64 (fmost 3), .bool (fname 3), .bool (ffield 3), .int .i64 (fops 3)]⟩, .bool true]) ?_ rfl ?_
  · exact results_cell2 (i := 2) (j := 3) (b := w.heap.size) Tryz.results62 Tryz.isAgg110 Tryz.sizeOf110 rfl rfl (heap_new w (.cells #[.int .i64 (fmost 3), .bool (fname 3), .bool (ffield 3), .int .i64 (fops 3)] 110)) rfl
  · exact ⟨rfl, R1.out⟩
set_option maxRecDepth 100000 in
theorem exprForm_4 (w : World) : Calls Tryz.prog 62 #[.int .i64 4] w (FormPost 4 w) := by
  have R1 := Lib.hid ((Below.refl w.heap.size w).alloc (Nat.le_refl _) (.cells #[.int .i64 (fmost 4), .bool (fname 4), .bool (ffield 4), .int .i64 (fops 4)] 110))
  go_enter Tryz.func62, Tryz.ntmps62
  go_wp2_with fail
  refine bodyPost_ret (v := .tuple #[.agg ⟨[.int .i64 (fmost 4), .bool (fname 4), .bool (ffield 4), .int .i64 (fops 4)]⟩, .bool true]) ?_ rfl ?_
  · exact results_cell2 (i := 2) (j := 3) (b := w.heap.size) Tryz.results62 Tryz.isAgg110 Tryz.sizeOf110 rfl rfl (heap_new w (.cells #[.int .i64 (fmost 4), .bool (fname 4), .bool (ffield 4), .int .i64 (fops 4)] 110)) rfl
  · exact ⟨rfl, R1.out⟩
set_option maxRecDepth 100000 in
theorem exprForm_5 (w : World) : Calls Tryz.prog 62 #[.int .i64 5] w (FormPost 5 w) := by
  have R1 := Lib.hid ((Below.refl w.heap.size w).alloc (Nat.le_refl _) (.cells #[.int .i64 (fmost 5), .bool (fname 5), .bool (ffield 5), .int .i64 (fops 5)] 110))
  go_enter Tryz.func62, Tryz.ntmps62
  go_wp2_with fail
  refine bodyPost_ret (v := .tuple #[.agg ⟨[.int .i64 (fmost 5), .bool (fname 5), .bool (ffield 5), .int .i64 (fops 5)]⟩, .bool true]) ?_ rfl ?_
  · exact results_cell2 (i := 2) (j := 3) (b := w.heap.size) Tryz.results62 Tryz.isAgg110 Tryz.sizeOf110 rfl rfl (heap_new w (.cells #[.int .i64 (fmost 5), .bool (fname 5), .bool (ffield 5), .int .i64 (fops 5)] 110)) rfl
  · exact ⟨rfl, R1.out⟩
set_option maxRecDepth 100000 in
theorem exprForm_6 (w : World) : Calls Tryz.prog 62 #[.int .i64 6] w (FormPost 6 w) := by
  have R1 := Lib.hid ((Below.refl w.heap.size w).alloc (Nat.le_refl _) (.cells #[.int .i64 (fmost 6), .bool (fname 6), .bool (ffield 6), .int .i64 (fops 6)] 110))
  go_enter Tryz.func62, Tryz.ntmps62
  go_wp2_with fail
  refine bodyPost_ret (v := .tuple #[.agg ⟨[.int .i64 (fmost 6), .bool (fname 6), .bool (ffield 6), .int .i64 (fops 6)]⟩, .bool true]) ?_ rfl ?_
  · exact results_cell2 (i := 2) (j := 3) (b := w.heap.size) Tryz.results62 Tryz.isAgg110 Tryz.sizeOf110 rfl rfl (heap_new w (.cells #[.int .i64 (fmost 6), .bool (fname 6), .bool (ffield 6), .int .i64 (fops 6)] 110)) rfl
  · exact ⟨rfl, R1.out⟩
set_option maxRecDepth 100000 in
theorem exprForm_8 (w : World) : Calls Tryz.prog 62 #[.int .i64 8] w (FormPost 8 w) := by
  have R1 := Lib.hid ((Below.refl w.heap.size w).alloc (Nat.le_refl _) (.cells #[.int .i64 (fmost 8), .bool (fname 8), .bool (ffield 8), .int .i64 (fops 8)] 110))
  go_enter Tryz.func62, Tryz.ntmps62
  go_wp2_with fail
  refine bodyPost_ret (v := .tuple #[.agg ⟨[.int .i64 (fmost 8), .bool (fname 8), .bool (ffield 8), .int .i64 (fops 8)]⟩, .bool true]) ?_ rfl ?_
  · exact results_cell2 (i := 2) (j := 3) (b := w.heap.size) Tryz.results62 Tryz.isAgg110 Tryz.sizeOf110 rfl rfl (heap_new w (.cells #[.int .i64 (fmost 8), .bool (fname 8), .bool (ffield 8), .int .i64 (fops 8)] 110)) rfl
  · exact ⟨rfl, R1.out⟩
set_option maxRecDepth 100000 in
theorem exprForm_9 (w : World) : Calls Tryz.prog 62 #[.int .i64 9] w (FormPost 9 w) := by
  have R1 := Lib.hid ((Below.refl w.heap.size w).alloc (Nat.le_refl _) (.cells #[.int .i64 (fmost 9), .bool (fname 9), .bool (ffield 9), .int .i64 (fops 9)] 110))
  go_enter Tryz.func62, Tryz.ntmps62
  go_wp2_with fail
  refine bodyPost_ret (v := .tuple #[.agg ⟨[.int .i64 (fmost 9), .bool (fname 9), .bool (ffield 9), .int .i64 (fops 9)]⟩, .bool true]) ?_ rfl ?_
  · exact results_cell2 (i := 2) (j := 3) (b := w.heap.size) Tryz.results62 Tryz.isAgg110 Tryz.sizeOf110 rfl rfl (heap_new w (.cells #[.int .i64 (fmost 9), .bool (fname 9), .bool (ffield 9), .int .i64 (fops 9)] 110)) rfl
  · exact ⟨rfl, R1.out⟩
set_option maxRecDepth 100000 in
set_option maxHeartbeats 1000000 in
theorem exprForm_no (op : Int) (w : World) (h1 : op ≠ 1) (h2 : op ≠ 2) (h3 : op ≠ 3) (h4 : op ≠ 4) (h5 : op ≠ 5) (h6 : op ≠ 6) (h8 : op ≠ 8) (h9 : op ≠ 9) : Calls Tryz.prog 62 #[.int .i64 op] w (FormPost op w) := by
  have HF := Lib.hid (show FormPost op w = fun e w' => e = .returned (.tuple #[.agg #[.int .i64 0, .bool false, .bool false, .int .i64 2], .bool (wthn op 10 24)]) ∧ Below w.heap.size w w' by
    unfold FormPost fmost fname ffield fops fok
    simp [h1, h2, h3, h4, h5, h6, h8, h9])
  have b1 : (op == 1) = false := by simpa using h1
  have b2 : (op == 2) = false := by simpa using h2
  have b3 : (op == 3) = false := by simpa using h3
  have b4 : (op == 4) = false := by simpa using h4
  have b5 : (op == 5) = false := by simpa using h5
  have b6 : (op == 6) = false := by simpa using h6
  have b8 : (op == 8) = false := by simpa using h8
  have b9 : (op == 9) = false := by simpa using h9
  clear h1 h2 h3 h4 h5 h6 h8 h9
  have R1 := Lib.hid ((Below.refl w.heap.size w).alloc (Nat.le_refl _) (.cells #[.int .i64 0, .bool false, .bool false, .int .i64 2] 110))
  rw [HF.out]
  go_enter Tryz.func62, Tryz.ntmps62
  go_wp2_with fail
  refine (within_any op 10 24 _).mono ?_
  rintro e w1 ⟨rfl, rfl⟩
  generalize hr : wthn op 10 24 = r
  go_wp2_with fail
  refine bodyPost_ret (v := .tuple #[.agg ⟨[.int .i64 0, .bool false, .bool false, .int .i64 2]⟩, .bool r]) ?_ rfl ?_
  · exact results_cell2 (i := 2) (j := 3) (b := w.heap.size) Tryz.results62 Tryz.isAgg110 Tryz.sizeOf110 rfl rfl (heap_new w (.cells #[.int .i64 0, .bool false, .bool false, .int .i64 2] 110)) rfl
  · exact ⟨by rw [hr], R1.out⟩
theorem exprForm_any (op : Int) (w : World) : Calls Tryz.prog 62 #[.int .i64 op] w (FormPost op w) := by
  by_cases h1 : op = 1
  · rw [h1]; exact exprForm_1 w
  by_cases h2 : op = 2
  · rw [h2]; exact exprForm_2 w
  by_cases h3 : op = 3
  · rw [h3]; exact exprForm_3 w
  by_cases h4 : op = 4
  · rw [h4]; exact exprForm_4 w
  by_cases h5 : op = 5
  · rw [h5]; exact exprForm_5 w
  by_cases h6 : op = 6
  · rw [h6]; exact exprForm_6 w
  by_cases h8 : op = 8
  · rw [h8]; exact exprForm_8 w
  by_cases h9 : op = 9
  · rw [h9]; exact exprForm_9 w
  exact exprForm_no op w h1 h2 h3 h4 h5 h6 h8 h9
end Go.Proofs.YtciijpahjjoppaaGreat
end
section
namespace Go.Proofs.YtciijpahjjoppaaGreat
open Go.RowKit Go.Deep Go.Maps

def upE (d op n : Int) (nm fd : ByteArray) (len : Nat) : Bool := (op == 25) && ((n == 0) && (fd.toList.isEmpty && (decide (len = 0) && okName d nm)))
set_option maxRecDepth 100000 in
set_option maxHeartbeats 1000000 in
theorem up_any (d ar op n : Int) (nm fd : ByteArray) (a : Option Addr) (len cap : Nat) (w : World) (hs : nm.size ≤ maxLen) :
    Calls Tryz.prog 99 #[.agg #[.int .i64 d, .int .i64 ar], .agg #[.int .i64 op, .int .i64 n, .string nm, .string fd, .slice a len cap]] w fun e w' => e = .returned (.bool (upE d op n nm fd len)) ∧ Below w.heap.size w w' := by
  have R1 := Lib.hid (((Below.refl w.heap.size w).alloc (Nat.le_refl _) (.cells #[.int .i64 d, .int .i64 ar] 51)).alloc (by simp) (.cells #[.int .i64 op, .int .i64 n, .string nm, .string fd, .slice a len cap] 24))
  cases h1 : op == 25 with
  | false =>
    have HO := Lib.hid (show upE d op n nm fd len = false by unfold upE; rw [h1]; rfl)
    go_enter Tryz.func99, Tryz.ntmps99
    go_wp2_with fail
    go_ret
    exact ⟨by rw [HO.out]; rfl, R1.out⟩
  | true =>
  cases h2 : n == 0 with
  | false =>
    have HO := Lib.hid (show upE d op n nm fd len = false by unfold upE; rw [h1, h2]; rfl)
    go_enter Tryz.func99, Tryz.ntmps99
    go_wp2_with fail
    go_ret
    exact ⟨by rw [HO.out]; rfl, R1.out⟩
  | true =>
  cases h3 : fd.toList.isEmpty with
  | false =>
    have HO := Lib.hid (show upE d op n nm fd len = false by unfold upE; rw [h1, h2, h3]; rfl)
    go_enter Tryz.func99, Tryz.ntmps99
    go_wp2_with fail
    go_ret
    exact ⟨by rw [HO.out]; rfl, R1.out⟩
  | true =>
  by_cases h4 : len = 0
  · have HO := Lib.hid (show upE d op n nm fd len = okName d nm by unfold upE; rw [h1, h2, h3, h4]; rfl)
    subst h4
    go_enter Tryz.func99, Tryz.ntmps99
    go_wp2_with fail
    refine (cname_any d ar nm _ hs).mono ?_
    rintro e w1 ⟨rfl, b1⟩
    have B1 := Lib.hid (R1.out.trans (b1.mono (by simp; omega)))
    clear b1
    generalize hr : okName d nm = r
    rw [hr] at HO
    go_wp2_with fail
    go_ret
    exact ⟨by rw [HO.out]; rfl, B1.out⟩
  · have HO := Lib.hid (show upE d op n nm fd len = false by unfold upE; rw [h1, h2, h3, decide_eq_false h4]; rfl)
    have h5 : ((len : Int) == 0) = false := by simpa using h4
    go_enter Tryz.func99, Tryz.ntmps99
    go_wp2_with fail
    go_ret
    exact ⟨by rw [HO.out]; rfl, R1.out⟩

def isUp : List D → Bool
  | .int op :: _ => op == 25
  | _ => false
def firstU (d : Int) (l : List (List D)) : Nat := if d == 1 then l.findIdx isUp else l.length
theorem firstU_le (d : Int) (l : List (List D)) : firstU d l ≤ l.length := by
  unfold firstU
  split
  · exact List.findIdx_le_length
  · exact Nat.le_refl _
theorem firstU_hit {d : Int} {l : List (List D)} {k : Nat} {x : List D} (hd : (d == 1) = true) (hx : l[k]? = some x) (ht : ∀ y ∈ l.take k, isUp y = false) (hu : isUp x = true) : firstU d l = k := by
  unfold firstU
  rw [hd, if_pos rfl]
  obtain ⟨hk, rfl⟩ := List.getElem?_eq_some_iff.1 hx
  rw [List.findIdx_eq hk]
  refine ⟨hu, fun j hj => ht _ ?_⟩
  exact List.mem_take_iff_getElem.2 ⟨j, by omega, rfl⟩
theorem firstU_none {d : Int} {l : List (List D)} (hd : (d == 1) = true) (ht : ∀ y ∈ l.take l.length, isUp y = false) : firstU d l = l.length := by
  unfold firstU
  rw [hd, if_pos rfl]
  rw [List.take_length] at ht
  exact List.findIdx_eq_length.2 ht
theorem noUp_succ {l : List (List D)} {k : Nat} {x : List D} (hx : l[k]? = some x) (ht : ∀ y ∈ l.take k, isUp y = false) (hu : isUp x = false) : ∀ y ∈ l.take (k + 1), isUp y = false := by
  intro y hy
  rw [List.take_add_one, hx] at hy
  rcases List.mem_append.1 hy with h | h
  · exact ht y h
  · have : y = x := by simpa using h
    rw [this]; exact hu
set_option maxRecDepth 100000 in
set_option maxHeartbeats 1000000 in
theorem firstUp_any (w0 : World) (d ar : Int) (a : Option Addr) (len cap : Nat) (l : List (List D)) (hA : At w0 (.slice a len cap) (.row l)) (hs : ∀ x ∈ l, ShE x) (W : World) (hW : Below w0.heap.size w0 W) :
    Calls Tryz.prog 97 #[.agg #[.int .i64 d, .int .i64 ar], .slice a len cap] W fun e W' => e = .returned (.int .i64 (firstU d l : Nat)) ∧ Below W.heap.size W W' := by
  have HA := Lib.hid hA
  have HS := Lib.hid hs
  have HW := Lib.hid hW
  have hle := hA.len_le
  have HL := Lib.hid hA.len_eq.1
  have R1 := Lib.hid ((Below.refl W.heap.size W).alloc (Nat.le_refl _) (.cells #[.int .i64 d, .int .i64 ar] 51))
  clear hA hs hW
  cases hd : d == 1 with
  | false =>
    have HO := Lib.hid (show firstU d l = len by unfold firstU; rw [hd]; exact HL.out)
    go_enter Tryz.func97, Tryz.ntmps97
    go_wp2_with fail
    go_ret
    exact ⟨by rw [HO.out]; rfl, R1.out⟩
  | true =>
    go_enter Tryz.func97, Tryz.ntmps97
    go_wp2_with fail
    go_loopw [12] (fun i wr => ∃ k : Nat, k ≤ len ∧ i = .int .i64 k ∧ (∀ y ∈ l.take k, isUp y = false) ∧ Below W.heap.size W wr) (fun i _ => len - (intOf i).toNat)
    case atStart => exact ⟨0, Nat.zero_le _, rfl, by simp, R1.out⟩
    case round =>
      obtain ⟨k, hk, rfl, ht, hb⟩ := hrel
      have HT := Lib.hid ht
      have HB := Lib.hid hb
      have HD := Lib.hid hd
      clear ht hb
      by_cases hlt : k < len
      · obtain ⟨b, o, vs, ds, rfl, hbl, hx, hv, hc⟩ := HA.out.elem hlt
        obtain ⟨op, n, nm, fd, kl, kla, klc, hds, hvs, _⟩ := hv.openE (HS.out _ (List.mem_of_getElem? hx))
        subst hvs
        have hdl : ds.length = 5 := by rw [hds]; rfl
        rw [hdl] at hc
        have B0 := HW.out.trans (HB.out.mono HW.out.size)
        have c0 := (B0.cell (p := ⟨b, o + k * 5, none⟩) hbl).trans (hc 0 _ rfl)
        have c1 := (B0.cell (p := ⟨b, o + k * 5 + 1, none⟩) hbl).trans (hc 1 _ rfl)
        have c2 := (B0.cell (p := ⟨b, o + k * 5 + 2, none⟩) hbl).trans (hc 2 _ rfl)
        have c3 := (B0.cell (p := ⟨b, o + k * 5 + 3, none⟩) hbl).trans (hc 3 _ rfl)
        have c4 := (B0.cell (p := ⟨b, o + k * 5 + 4, none⟩) hbl).trans (hc 4 _ rfl)
        have hbw : b < wr.heap.size := Nat.lt_of_lt_of_le hbl B0.size
        have HX := Lib.hid hx
        have HU := Lib.hid (show isUp ds = (op == 25) by rw [hds]; rfl)
        have HR := Lib.hid (HB.out.alloc HB.out.size (.cells #[.int .i64 op, .int .i64 n, .string nm, .string fd, .slice kla kl.length klc] 24))
        clear hx hds hdl hc B0 hv
        cases hu : op == 25 with
        | true =>
          have HE := Lib.hid (firstU_hit HD.out HX.out HT.out (HU.out.trans hu))
          go_wp2_with fail
          go_ret
          exact ⟨by rw [HE.out]; rfl, HR.out⟩
        | false =>
          have HE := Lib.hid (noUp_succ HX.out HT.out (HU.out.trans hu))
          go_wp2_with fail
          go_roundw
          case rel => exact ⟨k + 1, by omega, by go_num, HE.out, HR.out⟩
          case measure => simp [intOf]; omega
      · obtain rfl : k = len := by omega
        have HE := Lib.hid (firstU_none (l := l) HD.out (by rw [HL.out]; exact HT.out))
        go_wp2_with fail
        go_ret
        exact ⟨by rw [HE.out, HL.out]; rfl, HB.out⟩
end Go.Proofs.YtciijpahjjoppaaGreat
end
section
namespace Go.Proofs.YtciijpahjjoppaaGreat
open Go.RowKit Go.Shelf Go.Deep
attribute [local go_sem] Oper.semAt_some

def okR (d : Int) (s : ByteArray) : Bool := if d == 1 then (parts s).all (okName d) else okName d s
theorem results_cell1 {fn : Func} {tmps : Array Value} {w : World} {i : Nat} {T : TypeId} (hres : fn.results = #[.cell i T]) (hag : ∀ w, (isAgg T).run Tryz.prog w = .ok false w) {b : Nat} (ht : tmps.getD i undef = .pointer (some ⟨b, 0, none⟩)) {v : Value} (hb : w.cell? ⟨b, 0, none⟩ = some v) :
    (results fn tmps).run Tryz.prog w = .ok v w := by
  rw [Array.getD_eq_getD_getElem?] at ht
  unfold results
  simp [hres, ht, loadVar, asAddr, hag, hb, Sem.run_bind]
structure RnJ (d ar : Int) (w : World) (r : Value) (W : World) : Prop where
  bc : W.heap[w.heap.size]? = some (.cells #[.int .i64 d, .int .i64 ar] 51 (0, 0))
  br : Boxed W (w.heap.size + 1) 4 r
  bel : Below w.heap.size w W
  sz : w.heap.size + 3 ≤ W.heap.size
theorem RnJ.same {d ar : Int} {w : World} {r : Value} {W W' : World} (h : RnJ d ar w r W) {row : Option Nat} (hg : W.grownBy W' row) (hr : ∀ b, row = some b → w.heap.size + 3 ≤ b) : RnJ d ar w r W' := by
  have hz := h.sz
  have blk : ∀ b, b < w.heap.size + 3 → W'.heap[b]? = W.heap[b]? := fun b hb => hg.block b (by omega) fun e => by have := hr b e.symm; omega
  exact ⟨(blk _ (by omega)).trans h.bc, (blk _ (by omega)).trans h.br, ⟨hg.os.trans h.bel.os, hg.tape.trans h.bel.tape, hg.output.trans h.bel.output, Nat.le_trans h.bel.size hg.size, fun b hb => (blk b (by omega)).trans (h.bel.block b hb)⟩, Nat.le_trans hz hg.size⟩
theorem RnJ.below {d ar : Int} {w : World} {r : Value} {W W' : World} (h : RnJ d ar w r W) (b : Below W.heap.size W W') : RnJ d ar w r W' :=
  have hz := h.sz
  ⟨(b.block _ (by omega)).trans h.bc, (b.block _ (by omega)).trans h.br, h.bel.trans (b.mono (by omega)), Nat.le_trans hz b.size⟩
theorem RnJ.set {d ar : Int} {w : World} {r : Value} {W : World} (h : RnJ d ar w r W) (v : Value) : RnJ d ar w v (W.setCell ⟨w.heap.size + 1, 0, none⟩ v) := by
  have hg := grownBy_setCell' W (w.heap.size + 1) v
  have hz := h.sz
  have ne : ∀ b, b < w.heap.size + 1 → some b ≠ some (w.heap.size + 1) := fun b hb e => by
    injection e with e
    omega
  have blk : ∀ b, b < w.heap.size + 1 → (W.setCell ⟨w.heap.size + 1, 0, none⟩ v).heap[b]? = W.heap[b]? := fun b hb => hg.block b (by omega) (ne b hb)
  exact ⟨(blk _ (by omega)).trans h.bc, h.br.set v, ⟨hg.os.trans h.bel.os, hg.tape.trans h.bel.tape, hg.output.trans h.bel.output, Nat.le_trans h.bel.size hg.size, fun b hb => (blk b (by omega)).trans (h.bel.block b hb)⟩, Nat.le_trans hz hg.size⟩
def RnI (d ar : Int) (w : World) (pre : List (Tx maxLen)) (W : World) : Prop := (pre.map (·.1)).all (okName d) = true ∧ RnJ d ar w (.bool false) W
def RnX (d ar : Int) (w : World) (c : Code) (pre : List (Tx maxLen)) (W : World) : Prop := c = .ret ∧ (pre.map (·.1)).all (okName d) = false ∧ RnJ d ar w (.bool false) W
theorem all_prefix_false {α : Type} {p l : List α} {f : α → Bool} (h : p <+: l) (hp : p.all f = false) : l.all f = false := by
  obtain ⟨t, rfl⟩ := h
  rw [List.all_append, hp, Bool.false_and]
set_option maxRecDepth 100000 in
set_option maxHeartbeats 4000000 in
theorem rname_any (d ar : Int) (s : ByteArray) (w : World) (hs : s.size ≤ maxLen) : Calls Tryz.prog 98 #[.agg #[.int .i64 d, .int .i64 ar], .string s] w fun e w' => e = .returned (.bool (okR d s)) ∧ Below w.heap.size w w' := by
  cases hd : d == 1 with
  | false =>
    have HO := Lib.hid (show okR d s = okName d s by unfold okR; rw [hd]; rfl)
    have hd1 : (d != 1) = true := by simpa using hd
    have B0 := Lib.hid (((Below.refl w.heap.size w).alloc (Nat.le_refl _) (.cells #[.int .i64 d, .int .i64 ar] 51)).alloc (by simp) (.cells #[.bool false] 4))
    have BX := Lib.hid (show Boxed ((w.alloc (.cells #[.int .i64 d, .int .i64 ar] 51)).alloc (.cells #[.bool false] 4)) (w.heap.size + 1) 4 (.bool false) by
      have := Boxed.new (w.alloc (.cells #[.int .i64 d, .int .i64 ar] 51)) 4 (.bool false)
      simpa using this)
    go_enter Tryz.func98, Tryz.ntmps98
    go_wp2_with fail
    refine (cname_any d ar s _ hs).mono ?_
    rintro e w1 ⟨rfl, b1⟩
    have hbx : Boxed w1 (w.heap.size + 1) 4 (.bool false) := (b1.block _ (by simp)).trans BX.out
    have hc := hbx.cell
    have hf := hbx.frozen
    have HB := Lib.hid hbx
    have B1 := Lib.hid (B0.out.trans (b1.mono (by simp; omega)))
    clear b1 hbx
    generalize hr : okName d s = r
    rw [hr] at HO
    go_wp2_with fail
    refine bodyPost_ret (v := .bool r) ?_ rfl ?_
    · exact results_cell1 (i := 4) (b := w.heap.size + 1) Tryz.results98 Tryz.isAgg4 rfl (HB.out.set _).cell
    · have hg := grownBy_setCell' w1 (w.heap.size + 1) (.bool r)
      have ne : ∀ b, b < w.heap.size → some b ≠ some (w.heap.size + 1) := fun b hb e => by
        injection e with e
        omega
      exact ⟨by rw [HO.out], ⟨hg.os.trans B1.out.os, hg.tape.trans B1.out.tape, hg.output.trans B1.out.output, Nat.le_trans B1.out.size hg.size, fun b hb => (hg.block b (Nat.lt_of_lt_of_le hb B1.out.size) (ne b hb)).trans (B1.out.block b hb)⟩⟩
  | true =>
    have hd1 : (d != 1) = false := by simpa using hd
    have HO := Lib.hid (show okR d s = (parts s).all (okName d) by unfold okR; rw [hd]; rfl)
    obtain ⟨W0, hW0⟩ : ∃ W0, W0 = ((w.alloc (.cells #[.int .i64 d, .int .i64 ar] 51)).alloc (.cells #[.bool false] 4)).alloc (.cells #[.string s] 9) := ⟨_, rfl⟩
    have z1 : (w.alloc (.cells #[.int .i64 d, .int .i64 ar] 51)).heap.size = w.heap.size + 1 := by simp
    have z2 : ((w.alloc (.cells #[.int .i64 d, .int .i64 ar] 51)).alloc (.cells #[.bool false] 4)).heap.size = w.heap.size + 2 := by simp
    have b0 : Below w.heap.size w W0 := by rw [hW0]; exact (((Below.refl _ w).alloc (Nat.le_refl _) _).alloc (by simp) _).alloc (by simp; omega) _
    have q0 : W0.heap.size = w.heap.size + 3 := by rw [hW0]; simp
    have bC : W0.heap[w.heap.size]? = some (.cells #[.int .i64 d, .int .i64 ar] 51 (0, 0)) := by
      have e1 := heap_new w (.cells #[.int .i64 d, .int .i64 ar] 51)
      have e2 := ((Below.refl (w.heap.size + 1) (w.alloc (.cells #[.int .i64 d, .int .i64 ar] 51))).alloc (by simp) (.cells #[.bool false] 4)).alloc (by simp) (.cells #[.string s] 9)
      rw [hW0]
      exact (e2.block _ (by omega)).trans e1
    have bR : Boxed W0 (w.heap.size + 1) 4 (.bool false) := by
      have := (Boxed.new (w.alloc (.cells #[.int .i64 d, .int .i64 ar] 51)) 4 (.bool false)).alloc (.cells #[.string s] 9)
      rw [z1] at this
      rw [hW0]
      exact this
    have bS : Boxed W0 (w.heap.size + 2) 9 (.string s) := by
      have := Boxed.new ((w.alloc (.cells #[.int .i64 d, .int .i64 ar] 51)).alloc (.cells #[.bool false] 4)) 9 (.string s)
      rw [z2] at this
      rw [hW0]
      exact this
    have HJ0 := Lib.hid (show RnI d ar w [] W0 from ⟨rfl, bC, bR, b0, by omega⟩)
    clear bC bR b0 z1 z2
    refine (callsIn_wide (n := 3)).1 ?_
    refine callsIn_of_wp_marks Tryz.func98 rfl trivial ?_ rfl
    simp only [Tryz.ntmps98, List.size_toArray, List.length_cons, List.length_nil, Nat.reduceAdd, Nat.reduceSub, Array.replicate_succ, Array.replicate_zero, List.push_toArray, List.append_toArray, List.nil_append, List.cons_append]
    gi_wp2_with (refine ⟨trivial, ?_⟩; gi_at_call 121; refine (callsIn_wide.2 (partsF_any s _)).mono ?_; rintro e w' ⟨rfl, rfl⟩)
    rw [← hW0]
    refine wpIn_rangeFunc_ownG rfl (by omega) (gf := 140) (lb := #[.pointer (some ⟨w.heap.size + 2, 0, none⟩)]) rfl trivial (enters_of Tryz.func140 (by kernel_rfl) rfl)
      (parts_stops maxLen (Nat.le_refl _) _ (by omega) (w.heap.size + 2) s hs (fun _ _ => True) W0 bS.cell) (fun _ _ => trivial) (fun _ _ _ _ _ _ _ _ => trivial) (Below.refl _ _) (fun _ => rfl)
      (RnI d ar w)
      (RnX d ar w)
      (fun (pre : List (Tx maxLen)) A B row hsx hg hr => ⟨hsx.1, hsx.2.same hg fun r e => by have := (hr r e).1; omega⟩)
      (fun c (pre : List (Tx maxLen)) A B row hsx hg hr => ⟨hsx.1, hsx.2.1, hsx.2.2.same hg fun r e => by have := (hr r e).1; omega⟩)
      HJ0.out
      (fun x => { tmps := #[.agg #[.int .i64 d, .int .i64 ar], .string s, .pointer (some ⟨w.heap.size, 0, none⟩), undef, .pointer (some ⟨w.heap.size + 1, 0, none⟩), .string x.1, .pointer (some ⟨w.heap.size, 0, none⟩), .int .i64 d, .bool false, undef, undef, undef, .string s, .func (.func 140) #[] #[.pointer (some ⟨w.heap.size + 2, 0, none⟩)], .string x.1, undef, undef, undef, undef], defers := [] }) ?assign ?body ?done ?stop
    case assign =>
      intro l x W K hK
      gi_wp2
      exact hK
    case body =>
      rintro l pre x W ⟨hpl, hJ⟩ hlt
      have c0 := box_cells hJ.bc
      have hcn := Lib.hid (cname_any d ar x.1 W x.2)
      have HJ := Lib.hid hJ
      have HP := Lib.hid hpl
      have LC := Lib.hid (show ∀ j v, ([.int .i64 d, .int .i64 ar] : List Value)[j]? = some v → W.cell? ⟨w.heap.size, 0 + j, none⟩ = some v from fun j v hv => by rw [c0, Nat.zero_add]; simpa using hv)
      clear hJ hpl
      cases hx : okName d x.1 with
      | true =>
        rw [hx] at hcn
        have HA := Lib.hid (show ((pre ++ [x]).map (·.1)).all (okName d) = true by rw [List.map_append, List.all_append, HP.out]; simpa using hx)
        clear hx
        gi_wp2_with (refine ⟨trivial, ?_⟩; gi_at_call 67; refine (CallsIn.inRound l (callsIn_wide.2 hcn.out)).mono ?_; rintro e W2 ⟨rfl, b2⟩; have HJ2 := Lib.hid (HJ.out.below b2); have hc2 := HJ2.out.br.cell; have hf2 := HJ2.out.br.frozen; have KF := Lib.hid (show KeepsFrom W0.heap.size W W2 from ⟨b2.size, fun k o _ hk _ => (b2.block k (heap_lt hk)).trans hk⟩); clear b2)
        exact ⟨KF.out, trivial, HA.out, HJ2.out⟩
      | false =>
        rw [hx] at hcn
        have HA := Lib.hid (show ((pre ++ [x]).map (·.1)).all (okName d) = false by rw [List.map_append, List.all_append]; simp [hx])
        clear hx
        gi_wp2_with (refine ⟨trivial, ?_⟩; gi_at_call 67; refine (CallsIn.inRound l (callsIn_wide.2 hcn.out)).mono ?_; rintro e W2 ⟨rfl, b2⟩; have HJ2 := Lib.hid (HJ.out.below b2); have hc2 := HJ2.out.br.cell; have hf2 := HJ2.out.br.frozen; have KF := Lib.hid (show KeepsFrom W0.heap.size W W2 from ⟨b2.size, fun k o _ hk _ => (b2.block k (heap_lt hk)).trans hk⟩); clear b2)
        exact ⟨KF.out.trans (KeepsFrom.of_grownBy (grownBy_setCell' W2 (w.heap.size + 1) (.bool false)) (fun j e => by injection e with e; omega)), rfl, HA.out, HJ2.out.set _⟩
    case done =>
      rintro D xs W hD hxs ⟨hpl, hJ⟩ hK
      have HN := Lib.hid (show (parts s).all (okName d) = true by rw [← hxs]; exact hpl)
      have hc := hJ.br.cell
      have hf := hJ.br.frozen
      have HJ1 := Lib.hid (hJ.set (.bool true))
      have HK1 := Lib.hid (show (W.setCell ⟨w.heap.size + 1, 0, none⟩ (.bool true)).heap[D]? = some (.deferred (some [])) from ((grownBy_setCell' W (w.heap.size + 1) (.bool true)).block D (heap_lt hK) (fun e => by injection e with e; omega)).trans hK)
      clear hJ hK hpl hxs
      gi_wp2
      have HJ2 := Lib.hid (RnJ.same HJ1.out (grownBy_putObj' _ D (.deferred none)) (fun b e => by injection e with e; omega))
      refine ⟨by simp, .inl ⟨_, _, rfl, run_takeDeferred HK1.out, ?_⟩⟩
      refine ⟨_, results_cell1 (i := 4) (b := w.heap.size + 1) Tryz.results98 Tryz.isAgg4 rfl HJ2.out.br.cell, ?_⟩
      exact ⟨by rw [HO.out, HN.out], HJ2.out.bel⟩
    case stop =>
      rintro D c pre W hD hSp ⟨rfl, hn, hJ⟩ hK
      have HN := Lib.hid (show (parts s).all (okName d) = false from all_prefix_false hSp hn)
      have HJ1 := Lib.hid hJ
      have HK1 := Lib.hid hK
      clear hJ hK hn hSp
      gi_wp2
      have HJ2 := Lib.hid (RnJ.same HJ1.out (grownBy_putObj' _ D (.deferred none)) (fun b e => by injection e with e; omega))
      refine ⟨by simp, .inl ⟨_, _, rfl, run_takeDeferred HK1.out, ?_⟩⟩
      refine ⟨_, results_cell1 (i := 4) (b := w.heap.size + 1) Tryz.results98 Tryz.isAgg4 rfl HJ2.out.br.cell, ?_⟩
      exact ⟨by rw [HO.out, HN.out], HJ2.out.bel⟩
end Go.Proofs.YtciijpahjjoppaaGreat
end
section
namespace Go.Proofs.YtciijpahjjoppaaGreat
open Go.RowKit Go.Deep
set_option maxRecDepth 100000 in
set_option maxHeartbeats 1000000 in
theorem allE_any (w0 : World) (g : Nat) (c : Value) (f : List D → Bool) (a : Option Addr) (len cap : Nat) (l : List (List D)) (hA : At w0 (.slice a len cap) (.row l)) (hs : ∀ x ∈ l, ShE x) (hf : OkFn w0 g c l f) (eg : ∀ args w, (callFunc g args).run Tryz.prog w = .ok (.enter g args) w) (W : World) (hW : Below w0.heap.size w0 W) :
    Calls Tryz.prog 64 #[.slice a len cap, .func (.func g) #[c] #[]] W fun e W' => e = .returned (.bool (okAll l f)) ∧ Below W.heap.size W W' := by
  have HA := Lib.hid hA
  have HS := Lib.hid hs
  have HF := Lib.hid hf
  have HW := Lib.hid hW
  have hle := hA.len_le
  have HL := Lib.hid hA.len_eq.1
  clear hA hs hf hW
  by_cases hbig : 512 < len
  · have hd : decide ((512 : Int) < (len : Int)) = true := by simp; omega
    have HO := Lib.hid (okAll_long (f := f) (show 512 < l.length by rw [HL.out]; exact hbig))
    go_enter Tryz.func64, Tryz.ntmps64
    go_wp2_with fail
    go_ret
    exact ⟨by rw [HO.out]; rfl, Below.refl _ _⟩
  · have hd : decide ((512 : Int) < (len : Int)) = false := by simp; omega
    go_enter Tryz.func64, Tryz.ntmps64
    go_wp2_with fail
    go_loopw [12] (fun i wr => ∃ k : Nat, k ≤ len ∧ i = .int .i64 k ∧ (l.take k).all f = true ∧ Below W.heap.size W wr) (fun i _ => len - (intOf i).toNat)
    case atStart => exact ⟨0, Nat.zero_le _, rfl, rfl, Below.refl _ _⟩
    case round =>
      obtain ⟨k, hk, rfl, ht, hb⟩ := hrel
      have HT := Lib.hid ht
      have HB := Lib.hid hb
      clear ht hb
      by_cases hlt : k < len
      · obtain ⟨b, o, vs, ds, rfl, hbl, hx, hv, hc⟩ := HA.out.elem hlt
        have hfn := HF.out ds (List.mem_of_getElem? hx) vs hv
        have hdl : ds.length = 5 := (HS.out _ (List.mem_of_getElem? hx)).ln
        rw [hdl] at hc
        have hvl := Lib.hid (hv.len.trans hdl)
        have hvo := Lib.hid hv.one
        clear hdl hv
        have B0 := HW.out.trans (HB.out.mono HW.out.size)
        have hbw : b < wr.heap.size := Nat.lt_of_lt_of_le hbl B0.size
        have C0 := Lib.hid (show ∀ j v, vs[j]? = some v → wr.cell? ⟨b, o + k * 5 + j, none⟩ = some v from fun j v hv => (B0.cell (p := ⟨b, o + k * 5 + j, none⟩) hbl).trans (hc j v hv))
        have N1 := (Below.refl wr.heap.size wr).alloc (Nat.le_refl _) (.cells ⟨vs⟩ 24)
        have C2 := Lib.hid (show ∀ j v, vs[j]? = some v → (wr.alloc (.cells ⟨vs⟩ 24)).cell? ⟨wr.heap.size, 0 + j, none⟩ = some v from fun j v hv => by
          rw [box_cells (heap_new wr (.cells ⟨vs⟩ 24))]
          simpa using hv)
        have FN := Lib.hid (hfn _ (B0.trans (N1.mono B0.size)))
        have HR := Lib.hid (HB.out.trans (N1.mono HB.out.size))
        have HX := Lib.hid hx
        clear hfn hx B0 hc N1
        go_wp2_with (first
          | ((with_reducible refine wp_loadAgg (o := ⟨some 15, _, _, _, _, _⟩) rfl (.tmp 14) 24 rfl 5 Tryz.isAgg24 Tryz.sizeOf24 b (o + k * 5) ?_ vs hvl.out C0.out ?_); rfl)
          | ((with_reducible refine wp_storeNew (o := ⟨none, .store 24 (.tmp 6) (.tmp 15), _, _, _, _⟩) rfl (.tmp 6) (.tmp 15) 24 rfl 5 Tryz.sizeOf24 _ ?_ ?_ vs ?_ hvl.out hvo.out ?_); rfl; rfl; rfl)
          | ((with_reducible refine wp_loadAgg (o := ⟨some 17, _, _, _, _, _⟩) rfl (.tmp 6) 24 rfl 5 Tryz.isAgg24 Tryz.sizeOf24 wr.heap.size 0 ?_ vs hvl.out C2.out ?_); rfl))
        refine FN.out.mono ?_
        rintro e w3 ⟨rfl, b3⟩
        have HB4 := Lib.hid (HR.out.trans (b3.mono HR.out.size))
        clear b3
        cases hsm : f ds with
        | true =>
          have HE := Lib.hid (all_take_succ HX.out HT.out hsm)
          clear hsm
          go_wp2_with fail
          go_roundw
          case rel => exact ⟨k + 1, by omega, by go_num, HE.out, HB4.out⟩
          case measure => simp [intOf]; omega
        | false =>
          have HE := Lib.hid (okAll_bad HX.out hsm)
          clear hsm
          go_wp2_with fail
          go_ret
          exact ⟨by rw [HE.out]; rfl, HB4.out⟩
      · obtain rfl : k = len := by omega
        have HE := Lib.hid (okAll_good (l := l) (f := f) (by rw [HL.out]; omega) (by rw [HL.out]; exact HT.out))
        go_wp2_with fail
        go_ret
        exact ⟨by rw [HE.out]; rfl, HB.out⟩
end Go.Proofs.YtciijpahjjoppaaGreat
end
