/-
  What came in, opened, with its bulk.
-/
import Derived.Test.YtciijpahjjoppaaGreatOpn
import Derived.Deep.Slices
import Derived.ProofKit
import Derived.OpenShut
namespace Go.Proofs.YtciijpahjjoppaaGreat
open Go.ChangeShapes Go.WideShapes Go.RowKit Go.Deep

mutual
def mD : D → Nat
  | .int _ => 1
  | .bool _ => 1
  | .str s => s.size + 1
  | .row l => mRows l + 1
def mRow : List D → Nat
  | [] => 0
  | d :: r => mD d + mRow r
def mRows : List (List D) → Nat
  | [] => 0
  | x :: l => mRow x + mRows l
end
theorem mRows_le {H : Type} (E : List (DataW H)) (g : Nat → List D) (h : ∀ j d, E[j]? = some d → mRow (g j) ≤ Rows.uptoBulk d) : mRows ((List.range E.length).map g) ≤ Rows.uptoBulkAll E := by
  induction E generalizing g with
  | nil => simp [mRows, Rows.uptoBulkAll]
  | cons d r ih =>
    rw [List.length_cons, List.range_succ_eq_map, List.map_cons, List.map_map]
    have h0 := h 0 d rfl
    have h1 := ih (fun j => g (j + 1)) fun j d' hd => h (j + 1) d' (by simpa using hd)
    simp only [mRows, Rows.uptoBulkAll]
    have e : (List.map (g ∘ Nat.succ) (List.range r.length)) = (List.map (fun j => g (j + 1)) (List.range r.length)) := rfl
    rw [e]
    omega
section
variable {H : Type} {enc : TypeId × Value → H} {W : World}
/-- A reading gives data of a shape, of no more bulk. -/
def OpensU (enc : TypeId × Value → H) (W : World) (Sh : List D → Prop) (t : TypeId) (n : Nat) : Prop := ∀ cs x, DataW.trod enc Tryz.prog W 0 (fun _ => true) true n t cs = some x → ∃ ds, AllAt W cs ds ∧ Sh ds ∧ mRow ds ≤ Rows.uptoBulk x.1
theorem row_ofU {Sh : List D → Prop} {t e : TypeId} {k : Nat} (ht : Tryz.prog.underlying t = some (.slice e)) (hk : Tryz.prog.cellsOf e = k) (hk0 : 0 < k) (hlen : ∀ ds, Sh ds → ds.length = k) {fuel : Nat} {cs : List Value} {x : DataW H × List MemPlace}
    (h : DataW.trod enc Tryz.prog W 0 (fun _ => true) true fuel t cs = some x) (hel : ∀ n, n < fuel → OpensU enc W Sh e n) : ∃ v l, cs = [v] ∧ At W v (.row l) ∧ (∀ z ∈ l, Sh z) ∧ mRows l + 1 ≤ Rows.uptoBulk x.1 := by
  rcases DataW.trod_slice ht h with ⟨rfl, rfl⟩ | ⟨a, len, cap, elems, rest, n, rfl, rfl, rfl, _, hl, hm, hlen', hin, _, _⟩
  · exact ⟨_, [], rfl, .nil none 0 (by decide), by simp, by simp [mRows, Rows.uptoBulk]⟩
  · have key : ∀ j, j < len → ∃ p : List Value × List D, W.cells? 0 (a.add (j * k)) k = some p.1 ∧ AllAt W p.1 p.2 ∧ Sh p.2 ∧ ∀ d, (elems.map (·.1))[j]? = some d → mRow p.2 ≤ Rows.uptoBulk d := by
      intro j hj
      have h1 := hin j hj
      rw [hk, List.getElem?_eq_getElem (by omega)] at h1
      obtain ⟨cs', h2, h3⟩ := Option.bind_eq_some_iff.1 h1
      obtain ⟨ds, h4, h5, h6⟩ := hel n (Nat.lt_succ_self n) cs' _ h3
      refine ⟨(cs', ds), h2, h4, h5, fun d hd => ?_⟩
      rw [List.getElem?_map, List.getElem?_eq_getElem (by omega)] at hd
      obtain rfl : (elems[j]'(by omega)).1 = d := by simpa using hd
      exact h6
    obtain ⟨f, hf⟩ := choose_lt key
    have hbulk : mRows ((List.range len).map fun j => (f j).2) + 1 ≤ Rows.uptoBulk (DataW.slice (elems.map (·.1)) (rest.map (·.1))) := by
      have h1 := mRows_le (elems.map (·.1)) (fun j => (f j).2) fun j d hd => by
        have hj : j < len := by
          have := (List.getElem?_eq_some_iff.1 hd).1
          rw [List.length_map] at this
          omega
        exact (hf j hj).2.2.2 d hd
      rw [List.length_map, hlen'] at h1
      simp only [Rows.uptoBulk]
      omega
    by_cases h0 : len = 0
    · subst h0
      exact ⟨_, [], rfl, .nil _ _ hm, by simp, by simpa [mRows] using hbulk⟩
    · have hcell : ∀ j i v, j < len → (f j).1[i]? = some v → W.cell? (a.add (j * k + i)) = some v := by
        intro j i v hj hv
        obtain ⟨_, hl', hat⟩ := World.cells?_some (hf j hj).1
        have hi : i < k := by rw [← hl']; exact (List.getElem?_eq_some_iff.1 hv).1
        have := hat i hi
        rw [Go.Deep.add_add] at this
        rw [this, hv]
      obtain ⟨b, o, spot⟩ := a
      have hl0 : (f 0).1.length = k := (World.cells?_some (hf 0 (by omega)).1).2.1
      have hc0 := hcell 0 0 _ (by omega) (List.getElem?_eq_getElem (by omega))
      have hspot : spot = none := by simpa [Addr.add] using World.cell?_spot hc0
      subst hspot
      rw [add_mid2] at hc0
      refine ⟨_, (List.range len).map fun j => (f j).2, rfl, .row b o len cap k _ (fun j => (f j).1) (by simp) hl hm (block_lt_of_cell hc0) (fun j hj => (World.cells?_some (hf j hj).1).2.1) ?_ ?_ ?_, ?_, hbulk⟩
      · intro j ds hj
        have hj' : j < len := by simpa using (List.getElem?_eq_some_iff.1 hj).1
        simp [hj'] at hj
        rw [← hj]
        exact hlen _ (hf j hj').2.2.1
      · intro j i v hj hv
        have := hcell j i v hj hv
        rw [add_mid2] at this
        rw [Nat.add_assoc]
        exact this
      · intro j i ds v d hj hv hd
        have hj' : j < len := by simpa using (List.getElem?_eq_some_iff.1 hj).1
        simp [hj'] at hj
        rw [← hj] at hd
        exact (hf j hj').2.1.get i v d hv hd
      · intro z hz
        obtain ⟨j, hj, rfl⟩ := List.mem_map.1 hz
        exact (hf j (by simpa using hj)).2.2.1
theorem opensU_T (n : Nat) : OpensU enc W ShT 9 n := fun cs x h => by
  obtain ⟨s, rfl, rfl, hs⟩ := DataW.trod_string Tryz.underlying9 h
  refine ⟨[.str s], ⟨.str s hs, trivial⟩, .mk s, ?_⟩
  simp only [mRow, mD, Rows.uptoBulk]
  exact Nat.le_refl _
theorem marks_ofU {n : Nat} {cs : List Value} {x : DataW H × List MemPlace} (h : DataW.trod enc Tryz.prog W 0 (fun _ => true) true n 59 cs = some x) :
    ∃ v v' l l', cs = [v, v'] ∧ At W v (.row l) ∧ At W v' (.row l') ∧ (∀ z ∈ l, ShT z) ∧ (∀ z ∈ l', ShT z) ∧ mRows l + mRows l' + 2 ≤ Rows.uptoBulk x.1 := by
  obtain ⟨xs, m, rfl, hxe, hl, hlen, hg⟩ := DataW.trod_struct Tryz.underlying59 h
  rw [cel59] at hl
  have hlen' : xs.length = 2 := hlen
  clear hlen
  obtain ⟨c0, c1, rfl⟩ := list2 hl
  obtain ⟨y0, y1, rfl⟩ := list2 hlen'
  · clear hl hlen' h
    have g0 : DataW.trod enc Tryz.prog W 0 (fun _ => true) true m 29 ((([c0, c1] : List Value).drop 0).take (Tryz.prog.cellsOf 29)) = some y0 := hg 0 _ rfl
    rw [cel29] at g0
    have g1 : DataW.trod enc Tryz.prog W 0 (fun _ => true) true m 29 ((([c0, c1] : List Value).drop 1).take (Tryz.prog.cellsOf 29)) = some y1 := hg 1 _ rfl
    rw [cel29] at g1
    obtain ⟨v0, l0, e0, a0, z0, m0⟩ := row_ofU Tryz.underlying29 cel9 (by omega) (fun _ h => ShT.ln h) g0 (fun j _ => opensU_T j)
    obtain ⟨v1, l1, e1, a1, z1, m1⟩ := row_ofU Tryz.underlying29 cel9 (by omega) (fun _ h => ShT.ln h) g1 (fun j _ => opensU_T j)
    obtain rfl : c0 = v0 := by simpa using e0
    obtain rfl : c1 = v1 := by simpa using e1
    refine ⟨_, _, l0, l1, rfl, a0, a1, z0, z1, ?_⟩
    rw [hxe]
    simp only [List.map_cons, List.map_nil, Rows.uptoBulk, Rows.uptoBulkAll]
    omega
theorem type_ofU {n : Nat} {cs : List Value} {x : DataW H × List MemPlace} (h : DataW.trod enc Tryz.prog W 0 (fun _ => true) true n 73 cs = some x) :
    ∃ kd sz tn, cs = [.int .i64 kd, .int .i64 sz, .string tn] ∧ (-9223372036854775808 ≤ kd ∧ kd ≤ 9223372036854775807) ∧ (-9223372036854775808 ≤ sz ∧ sz ≤ 9223372036854775807) ∧ tn.size ≤ maxLen ∧ tn.size + 3 ≤ Rows.uptoBulk x.1 := by
  obtain ⟨xs, m, rfl, hxe, hl, hlen, hg⟩ := DataW.trod_struct Tryz.underlying73 h
  rw [cel73] at hl
  have hlen' : xs.length = 3 := hlen
  clear hlen
  obtain ⟨c0, c1, c2, rfl⟩ := list3 hl
  obtain ⟨y0, y1, y2, rfl⟩ := list3 hlen'
  · clear hl hlen' h
    have g0 : DataW.trod enc Tryz.prog W 0 (fun _ => true) true m 3 ((([c0, c1, c2] : List Value).drop 0).take (Tryz.prog.cellsOf 3)) = some y0 := hg 0 _ rfl
    rw [cel3] at g0
    have g1 : DataW.trod enc Tryz.prog W 0 (fun _ => true) true m 3 ((([c0, c1, c2] : List Value).drop 1).take (Tryz.prog.cellsOf 3)) = some y1 := hg 1 _ rfl
    rw [cel3] at g1
    have g2 : DataW.trod enc Tryz.prog W 0 (fun _ => true) true m 9 ((([c0, c1, c2] : List Value).drop 2).take (Tryz.prog.cellsOf 9)) = some y2 := hg 2 _ rfl
    rw [cel9] at g2
    obtain ⟨n0, e0, rfl, w0⟩ := DataW.trod_int Tryz.underlying3 g0
    obtain ⟨n1, e1, rfl, w1⟩ := DataW.trod_int Tryz.underlying3 g1
    obtain ⟨s, e2, rfl, w2⟩ := DataW.trod_string Tryz.underlying9 g2
    obtain rfl : c0 = .int .i64 n0 := by simpa using e0
    obtain rfl : c1 = .int .i64 n1 := by simpa using e1
    obtain rfl : c2 = .string s := by simpa using e2
    refine ⟨n0, n1, s, rfl, bounds_i64 w0, bounds_i64 w1, w2, ?_⟩
    rw [hxe]
    simp only [List.map_cons, List.map_nil, Rows.uptoBulk, Rows.uptoBulkAll]
    have e : s.data.toList.length = s.size := by rw [Array.length_toList]; rfl
    omega
set_option maxHeartbeats 1000000 in
theorem opensU_E (n : Nat) : OpensU enc W ShE 24 n := by
  induction n using Nat.strongRecOn with
  | ind n ih =>
    intro cs x h
    obtain ⟨xs, m, rfl, hxe, hl, hlen, hg⟩ := DataW.trod_struct Tryz.underlying24 h
    rw [cel24] at hl
    have hlen' : xs.length = 5 := hlen
    clear hlen
    obtain ⟨c0, c1, c2, c3, c4, rfl⟩ := list5 hl
    obtain ⟨y0, y1, y2, y3, y4, rfl⟩ := list5 hlen'
    clear hl hlen' h
    have g0 : DataW.trod enc Tryz.prog W 0 (fun _ => true) true m 3 ((([c0, c1, c2, c3, c4] : List Value).drop 0).take (Tryz.prog.cellsOf 3)) = some y0 := hg 0 _ rfl
    rw [cel3] at g0
    obtain ⟨n0, e0, rfl, w0⟩ := DataW.trod_int Tryz.underlying3 g0
    obtain rfl : c0 = .int .i64 n0 := by simpa using e0
    have b0 := bounds_i64 w0
    have g1 : DataW.trod enc Tryz.prog W 0 (fun _ => true) true m 2 ((([.int .i64 n0, c1, c2, c3, c4] : List Value).drop 1).take (Tryz.prog.cellsOf 2)) = some y1 := hg 1 _ rfl
    rw [cel2] at g1
    obtain ⟨n1, e1, rfl, w1⟩ := DataW.trod_int Tryz.underlying2 g1
    obtain rfl : c1 = .int .i64 n1 := by simpa using e1
    have b1 := bounds_i64 w1
    have g2 : DataW.trod enc Tryz.prog W 0 (fun _ => true) true m 9 ((([.int .i64 n0, .int .i64 n1, c2, c3, c4] : List Value).drop 2).take (Tryz.prog.cellsOf 9)) = some y2 := hg 2 _ rfl
    rw [cel9] at g2
    obtain ⟨s2, e2, rfl, w2⟩ := DataW.trod_string Tryz.underlying9 g2
    obtain rfl : c2 = .string s2 := by simpa using e2
    have g3 : DataW.trod enc Tryz.prog W 0 (fun _ => true) true m 9 ((([.int .i64 n0, .int .i64 n1, .string s2, c3, c4] : List Value).drop 3).take (Tryz.prog.cellsOf 9)) = some y3 := hg 3 _ rfl
    rw [cel9] at g3
    obtain ⟨s3, e3, rfl, w3⟩ := DataW.trod_string Tryz.underlying9 g3
    obtain rfl : c3 = .string s3 := by simpa using e3
    have g4 : DataW.trod enc Tryz.prog W 0 (fun _ => true) true m 22 ((([.int .i64 n0, .int .i64 n1, .string s2, .string s3, c4] : List Value).drop 4).take (Tryz.prog.cellsOf 22)) = some y4 := hg 4 _ rfl
    rw [cel22] at g4
    obtain ⟨v4, l4, e4, a4, z4, m4⟩ := row_ofU Tryz.underlying22 cel24 (by omega) (fun _ h => ShE.ln h) g4 (fun j hj => ih j (by omega))
    obtain rfl : c4 = v4 := by simpa using e4
    refine ⟨[.int n0, .int n1, .str s2, .str s3, .row l4], ⟨.int n0 b0.1 b0.2, .int n1 b1.1 b1.2, .str s2 w2, .str s3 w3, a4, trivial⟩, .mk _ _ _ _ _ z4, ?_⟩
    rw [hxe]
    simp only [mRow, mD, List.map_cons, List.map_nil, Rows.uptoBulk, Rows.uptoBulkAll]
    have el2 : s2.data.toList.length = s2.size := by rw [Array.length_toList]; rfl
    have el3 : s3.data.toList.length = s3.size := by rw [Array.length_toList]; rfl
    omega
set_option maxHeartbeats 1000000 in
theorem opensU_F (n : Nat) : OpensU enc W ShF 65 n := by
  intro cs x h
  obtain ⟨xs, m, rfl, hxe, hl, hlen, hg⟩ := DataW.trod_struct Tryz.underlying65 h
  rw [cel65] at hl
  have hlen' : xs.length = 3 := hlen
  clear hlen
  obtain ⟨c0, c1, c2, c3, rfl⟩ := list4 hl
  obtain ⟨y0, y1, y2, rfl⟩ := list3 hlen'
  clear hl hlen' h
  have g0 : DataW.trod enc Tryz.prog W 0 (fun _ => true) true m 59 ((([c0, c1, c2, c3] : List Value).drop 0).take (Tryz.prog.cellsOf 59)) = some y0 := hg 0 _ rfl
  rw [cel59] at g0
  obtain ⟨v0, v0', l0, l0', e0, a0, a0', z0, z0', m0⟩ := marks_ofU g0
  obtain ⟨rfl, rfl⟩ : c0 = v0 ∧ c1 = v0' := by simpa using e0
  have g1 : DataW.trod enc Tryz.prog W 0 (fun _ => true) true m 9 ((([c0, c1, c2, c3] : List Value).drop 2).take (Tryz.prog.cellsOf 9)) = some y1 := hg 1 _ rfl
  rw [cel9] at g1
  obtain ⟨s1, e1, rfl, w1⟩ := DataW.trod_string Tryz.underlying9 g1
  obtain rfl : c2 = .string s1 := by simpa using e1
  have g2 : DataW.trod enc Tryz.prog W 0 (fun _ => true) true m 3 ((([c0, c1, .string s1, c3] : List Value).drop 3).take (Tryz.prog.cellsOf 3)) = some y2 := hg 2 _ rfl
  rw [cel3] at g2
  obtain ⟨n2, e2, rfl, w2⟩ := DataW.trod_int Tryz.underlying3 g2
  obtain rfl : c3 = .int .i64 n2 := by simpa using e2
  have b2 := bounds_i64 w2
  refine ⟨[.row l0, .row l0', .str s1, .int n2], ⟨a0, a0', .str s1 w1, .int n2 b2.1 b2.2, trivial⟩, .mk _ _ _ _ z0 z0', ?_⟩
  rw [hxe]
  simp only [mRow, mD, List.map_cons, List.map_nil, Rows.uptoBulk, Rows.uptoBulkAll]
  have el1 : s1.data.toList.length = s1.size := by rw [Array.length_toList]; rfl
  omega
set_option maxHeartbeats 1000000 in
theorem opensU_C (n : Nat) : OpensU enc W ShC 62 n := by
  intro cs x h
  obtain ⟨xs, m, rfl, hxe, hl, hlen, hg⟩ := DataW.trod_struct Tryz.underlying62 h
  rw [cel62] at hl
  have hlen' : xs.length = 4 := hlen
  clear hlen
  obtain ⟨c0, c1, c2, c3, c4, rfl⟩ := list5 hl
  obtain ⟨y0, y1, y2, y3, rfl⟩ := list4 hlen'
  clear hl hlen' h
  have g0 : DataW.trod enc Tryz.prog W 0 (fun _ => true) true m 59 ((([c0, c1, c2, c3, c4] : List Value).drop 0).take (Tryz.prog.cellsOf 59)) = some y0 := hg 0 _ rfl
  rw [cel59] at g0
  obtain ⟨v0, v0', l0, l0', e0, a0, a0', z0, z0', m0⟩ := marks_ofU g0
  obtain ⟨rfl, rfl⟩ : c0 = v0 ∧ c1 = v0' := by simpa using e0
  have g1 : DataW.trod enc Tryz.prog W 0 (fun _ => true) true m 9 ((([c0, c1, c2, c3, c4] : List Value).drop 2).take (Tryz.prog.cellsOf 9)) = some y1 := hg 1 _ rfl
  rw [cel9] at g1
  obtain ⟨s1, e1, rfl, w1⟩ := DataW.trod_string Tryz.underlying9 g1
  obtain rfl : c2 = .string s1 := by simpa using e1
  have g2 : DataW.trod enc Tryz.prog W 0 (fun _ => true) true m 60 ((([c0, c1, .string s1, c3, c4] : List Value).drop 3).take (Tryz.prog.cellsOf 60)) = some y2 := hg 2 _ rfl
  rw [cel60] at g2
  obtain ⟨v2, l2, e2, a2, z2, m2⟩ := row_ofU Tryz.underlying60 cel65 (by omega) (fun _ h => ShF.ln h) g2 (fun j _ => opensU_F j)
  obtain rfl : c3 = v2 := by simpa using e2
  have g3 : DataW.trod enc Tryz.prog W 0 (fun _ => true) true m 29 ((([c0, c1, .string s1, c3, c4] : List Value).drop 4).take (Tryz.prog.cellsOf 29)) = some y3 := hg 3 _ rfl
  rw [cel29] at g3
  obtain ⟨v3, l3, e3, a3, z3, m3⟩ := row_ofU Tryz.underlying29 cel9 (by omega) (fun _ h => ShT.ln h) g3 (fun j _ => opensU_T j)
  obtain rfl : c4 = v3 := by simpa using e3
  refine ⟨[.row l0, .row l0', .str s1, .row l2, .row l3], ⟨a0, a0', .str s1 w1, a2, a3, trivial⟩, .mk _ _ _ _ _ z0 z0' z2 z3, ?_⟩
  rw [hxe]
  simp only [mRow, mD, List.map_cons, List.map_nil, Rows.uptoBulk, Rows.uptoBulkAll]
  have el1 : s1.data.toList.length = s1.size := by rw [Array.length_toList]; rfl
  omega
set_option maxHeartbeats 1000000 in
theorem opensU_V (n : Nat) : OpensU enc W ShV 75 n := by
  intro cs x h
  obtain ⟨xs, m, rfl, hxe, hl, hlen, hg⟩ := DataW.trod_struct Tryz.underlying75 h
  rw [cel75] at hl
  have hlen' : xs.length = 3 := hlen
  clear hlen
  obtain ⟨c0, c1, c2, c3, c4, c5, rfl⟩ := list6 hl
  obtain ⟨y0, y1, y2, rfl⟩ := list3 hlen'
  clear hl hlen' h
  have g0 : DataW.trod enc Tryz.prog W 0 (fun _ => true) true m 59 ((([c0, c1, c2, c3, c4, c5] : List Value).drop 0).take (Tryz.prog.cellsOf 59)) = some y0 := hg 0 _ rfl
  rw [cel59] at g0
  obtain ⟨v0, v0', l0, l0', e0, a0, a0', z0, z0', m0⟩ := marks_ofU g0
  obtain ⟨rfl, rfl⟩ : c0 = v0 ∧ c1 = v0' := by simpa using e0
  have g1 : DataW.trod enc Tryz.prog W 0 (fun _ => true) true m 9 ((([c0, c1, c2, c3, c4, c5] : List Value).drop 2).take (Tryz.prog.cellsOf 9)) = some y1 := hg 1 _ rfl
  rw [cel9] at g1
  obtain ⟨s1, e1, rfl, w1⟩ := DataW.trod_string Tryz.underlying9 g1
  obtain rfl : c2 = .string s1 := by simpa using e1
  have g2 : DataW.trod enc Tryz.prog W 0 (fun _ => true) true m 73 ((([c0, c1, .string s1, c3, c4, c5] : List Value).drop 3).take (Tryz.prog.cellsOf 73)) = some y2 := hg 2 _ rfl
  rw [cel73] at g2
  obtain ⟨k2, q2, s2, e2, b2, b2', w2, m2⟩ := type_ofU g2
  obtain ⟨rfl, rfl, rfl⟩ : c3 = .int .i64 k2 ∧ c4 = .int .i64 q2 ∧ c5 = .string s2 := by simpa using e2
  refine ⟨[.row l0, .row l0', .str s1, .int k2, .int q2, .str s2], ⟨a0, a0', .str s1 w1, .int k2 b2.1 b2.2, .int q2 b2'.1 b2'.2, .str s2 w2, trivial⟩, .mk _ _ _ _ _ _ z0 z0', ?_⟩
  rw [hxe]
  simp only [mRow, mD, List.map_cons, List.map_nil, Rows.uptoBulk, Rows.uptoBulkAll]
  have el1 : s1.data.toList.length = s1.size := by rw [Array.length_toList]; rfl
  omega
set_option maxHeartbeats 1000000 in
theorem opensU_P (n : Nat) : OpensU enc W ShP 133 n := by
  intro cs x h
  obtain ⟨xs, m, rfl, hxe, hl, hlen, hg⟩ := DataW.trod_struct Tryz.underlying133 h
  rw [cel133] at hl
  have hlen' : xs.length = 3 := hlen
  clear hlen
  obtain ⟨c0, c1, c2, c3, c4, rfl⟩ := list5 hl
  obtain ⟨y0, y1, y2, rfl⟩ := list3 hlen'
  clear hl hlen' h
  have g0 : DataW.trod enc Tryz.prog W 0 (fun _ => true) true m 9 ((([c0, c1, c2, c3, c4] : List Value).drop 0).take (Tryz.prog.cellsOf 9)) = some y0 := hg 0 _ rfl
  rw [cel9] at g0
  obtain ⟨s0, e0, rfl, w0⟩ := DataW.trod_string Tryz.underlying9 g0
  obtain rfl : c0 = .string s0 := by simpa using e0
  have g1 : DataW.trod enc Tryz.prog W 0 (fun _ => true) true m 73 ((([.string s0, c1, c2, c3, c4] : List Value).drop 1).take (Tryz.prog.cellsOf 73)) = some y1 := hg 1 _ rfl
  rw [cel73] at g1
  obtain ⟨k1, q1, s1, e1, b1, b1', w1, m1⟩ := type_ofU g1
  obtain ⟨rfl, rfl, rfl⟩ : c1 = .int .i64 k1 ∧ c2 = .int .i64 q1 ∧ c3 = .string s1 := by simpa using e1
  have g2 : DataW.trod enc Tryz.prog W 0 (fun _ => true) true m 3 ((([.string s0, .int .i64 k1, .int .i64 q1, .string s1, c4] : List Value).drop 4).take (Tryz.prog.cellsOf 3)) = some y2 := hg 2 _ rfl
  rw [cel3] at g2
  obtain ⟨n2, e2, rfl, w2⟩ := DataW.trod_int Tryz.underlying3 g2
  obtain rfl : c4 = .int .i64 n2 := by simpa using e2
  have b2 := bounds_i64 w2
  refine ⟨[.str s0, .int k1, .int q1, .str s1, .int n2], ⟨.str s0 w0, .int k1 b1.1 b1.2, .int q1 b1'.1 b1'.2, .str s1 w1, .int n2 b2.1 b2.2, trivial⟩, .mk _ _ _ _ _ , ?_⟩
  rw [hxe]
  simp only [mRow, mD, List.map_cons, List.map_nil, Rows.uptoBulk, Rows.uptoBulkAll]
  have el0 : s0.data.toList.length = s0.size := by rw [Array.length_toList]; rfl
  omega
set_option maxHeartbeats 1000000 in
theorem opensU_S (n : Nat) : OpensU enc W ShS 84 n := by
  induction n using Nat.strongRecOn with
  | ind n ih =>
    intro cs x h
    obtain ⟨xs, m, rfl, hxe, hl, hlen, hg⟩ := DataW.trod_struct Tryz.underlying84 h
    rw [cel84] at hl
    have hlen' : xs.length = 11 := hlen
    clear hlen
    obtain ⟨c0, c1, c2, c3, c4, c5, c6, c7, c8, c9, c10, c11, c12, c13, c14, c15, rfl⟩ := list16 hl
    obtain ⟨y0, y1, y2, y3, y4, y5, y6, y7, y8, y9, y10, rfl⟩ := list11 hlen'
    clear hl hlen' h
    have g0 : DataW.trod enc Tryz.prog W 0 (fun _ => true) true m 59 ((([c0, c1, c2, c3, c4, c5, c6, c7, c8, c9, c10, c11, c12, c13, c14, c15] : List Value).drop 0).take (Tryz.prog.cellsOf 59)) = some y0 := hg 0 _ rfl
    rw [cel59] at g0
    obtain ⟨v0, v0', l0, l0', e0, a0, a0', z0, z0', m0⟩ := marks_ofU g0
    obtain ⟨rfl, rfl⟩ : c0 = v0 ∧ c1 = v0' := by simpa using e0
    have g1 : DataW.trod enc Tryz.prog W 0 (fun _ => true) true m 3 ((([c0, c1, c2, c3, c4, c5, c6, c7, c8, c9, c10, c11, c12, c13, c14, c15] : List Value).drop 2).take (Tryz.prog.cellsOf 3)) = some y1 := hg 1 _ rfl
    rw [cel3] at g1
    obtain ⟨n1, e1, rfl, w1⟩ := DataW.trod_int Tryz.underlying3 g1
    obtain rfl : c2 = .int .i64 n1 := by simpa using e1
    have b1 := bounds_i64 w1
    have g2 : DataW.trod enc Tryz.prog W 0 (fun _ => true) true m 9 ((([c0, c1, .int .i64 n1, c3, c4, c5, c6, c7, c8, c9, c10, c11, c12, c13, c14, c15] : List Value).drop 3).take (Tryz.prog.cellsOf 9)) = some y2 := hg 2 _ rfl
    rw [cel9] at g2
    obtain ⟨s2, e2, rfl, w2⟩ := DataW.trod_string Tryz.underlying9 g2
    obtain rfl : c3 = .string s2 := by simpa using e2
    have g3 : DataW.trod enc Tryz.prog W 0 (fun _ => true) true m 24 ((([c0, c1, .int .i64 n1, .string s2, c4, c5, c6, c7, c8, c9, c10, c11, c12, c13, c14, c15] : List Value).drop 4).take (Tryz.prog.cellsOf 24)) = some y3 := hg 3 _ rfl
    rw [cel24] at g3
    obtain ⟨d3, a3, z3, m3⟩ := opensU_E _ _ _ g3
    cases z3 with
    | mk xo xn xm xf xl xs' =>
      obtain ⟨a30, a31, a32, a33, a34, _⟩ := a3
      have g4 : DataW.trod enc Tryz.prog W 0 (fun _ => true) true m 22 ((([c0, c1, .int .i64 n1, .string s2, c4, c5, c6, c7, c8, c9, c10, c11, c12, c13, c14, c15] : List Value).drop 9).take (Tryz.prog.cellsOf 22)) = some y4 := hg 4 _ rfl
      rw [cel22] at g4
      obtain ⟨v4, l4, e4, a4, z4, m4⟩ := row_ofU Tryz.underlying22 cel24 (by omega) (fun _ h => ShE.ln h) g4 (fun j _ => opensU_E j)
      obtain rfl : c9 = v4 := by simpa using e4
      have g5 : DataW.trod enc Tryz.prog W 0 (fun _ => true) true m 4 ((([c0, c1, .int .i64 n1, .string s2, c4, c5, c6, c7, c8, c9, c10, c11, c12, c13, c14, c15] : List Value).drop 10).take (Tryz.prog.cellsOf 4)) = some y5 := hg 5 _ rfl
      rw [cel4] at g5
      obtain ⟨t5, e5, rfl⟩ := DataW.trod_bool Tryz.underlying4 g5
      obtain rfl : c10 = .bool t5 := by simpa using e5
      have g6 : DataW.trod enc Tryz.prog W 0 (fun _ => true) true m 4 ((([c0, c1, .int .i64 n1, .string s2, c4, c5, c6, c7, c8, c9, .bool t5, c11, c12, c13, c14, c15] : List Value).drop 11).take (Tryz.prog.cellsOf 4)) = some y6 := hg 6 _ rfl
      rw [cel4] at g6
      obtain ⟨t6, e6, rfl⟩ := DataW.trod_bool Tryz.underlying4 g6
      obtain rfl : c11 = .bool t6 := by simpa using e6
      have g7 : DataW.trod enc Tryz.prog W 0 (fun _ => true) true m 33 ((([c0, c1, .int .i64 n1, .string s2, c4, c5, c6, c7, c8, c9, .bool t5, .bool t6, c12, c13, c14, c15] : List Value).drop 12).take (Tryz.prog.cellsOf 33)) = some y7 := hg 7 _ rfl
      rw [cel33] at g7
      obtain ⟨v7, l7, e7, a7, z7, m7⟩ := row_ofU Tryz.underlying33 cel84 (by omega) (fun _ h => ShS.ln h) g7 (fun j hj => ih j (by omega))
      obtain rfl : c12 = v7 := by simpa using e7
      have g8 : DataW.trod enc Tryz.prog W 0 (fun _ => true) true m 33 ((([c0, c1, .int .i64 n1, .string s2, c4, c5, c6, c7, c8, c9, .bool t5, .bool t6, c12, c13, c14, c15] : List Value).drop 13).take (Tryz.prog.cellsOf 33)) = some y8 := hg 8 _ rfl
      rw [cel33] at g8
      obtain ⟨v8, l8, e8, a8, z8, m8⟩ := row_ofU Tryz.underlying33 cel84 (by omega) (fun _ h => ShS.ln h) g8 (fun j hj => ih j (by omega))
      obtain rfl : c13 = v8 := by simpa using e8
      have g9 : DataW.trod enc Tryz.prog W 0 (fun _ => true) true m 29 ((([c0, c1, .int .i64 n1, .string s2, c4, c5, c6, c7, c8, c9, .bool t5, .bool t6, c12, c13, c14, c15] : List Value).drop 14).take (Tryz.prog.cellsOf 29)) = some y9 := hg 9 _ rfl
      rw [cel29] at g9
      obtain ⟨v9, l9, e9, a9, z9, m9⟩ := row_ofU Tryz.underlying29 cel9 (by omega) (fun _ h => ShT.ln h) g9 (fun j _ => opensU_T j)
      obtain rfl : c14 = v9 := by simpa using e9
      have g10 : DataW.trod enc Tryz.prog W 0 (fun _ => true) true m 29 ((([c0, c1, .int .i64 n1, .string s2, c4, c5, c6, c7, c8, c9, .bool t5, .bool t6, c12, c13, c14, c15] : List Value).drop 15).take (Tryz.prog.cellsOf 29)) = some y10 := hg 10 _ rfl
      rw [cel29] at g10
      obtain ⟨v10, l10, e10, a10, z10, m10⟩ := row_ofU Tryz.underlying29 cel9 (by omega) (fun _ h => ShT.ln h) g10 (fun j _ => opensU_T j)
      obtain rfl : c15 = v10 := by simpa using e10
      refine ⟨[.row l0, .row l0', .int n1, .str s2, .int xo, .int xn, .str xm, .str xf, .row xl, .row l4, .bool t5, .bool t6, .row l7, .row l8, .row l9, .row l10], ⟨a0, a0', .int n1 b1.1 b1.2, .str s2 w2, a30, a31, a32, a33, a34, a4, .bool t5, .bool t6, a7, a8, a9, a10, trivial⟩, .mk _ _ _ _ _ _ _ _ _ _ _ _ _ _ _ _ z0 z0' xs' z4 z7 z8 z9 z10, ?_⟩
      rw [hxe]
      simp only [mRow, mD, List.map_cons, List.map_nil, Rows.uptoBulk, Rows.uptoBulkAll]
      have el2 : s2.data.toList.length = s2.size := by rw [Array.length_toList]; rfl
      simp only [mRow, mD] at m3
      omega
set_option maxHeartbeats 1000000 in
theorem opensU_R (n : Nat) : OpensU enc W ShR 80 n := by
  induction n using Nat.strongRecOn with
  | ind n ih =>
    intro cs x h
    obtain ⟨xs, m, rfl, hxe, hl, hlen, hg⟩ := DataW.trod_struct Tryz.underlying80 h
    rw [cel80] at hl
    have hlen' : xs.length = 8 := hlen
    clear hlen
    obtain ⟨c0, c1, c2, c3, c4, c5, c6, c7, c8, rfl⟩ := list9 hl
    obtain ⟨y0, y1, y2, y3, y4, y5, y6, y7, rfl⟩ := list8 hlen'
    clear hl hlen' h
    have g0 : DataW.trod enc Tryz.prog W 0 (fun _ => true) true m 59 ((([c0, c1, c2, c3, c4, c5, c6, c7, c8] : List Value).drop 0).take (Tryz.prog.cellsOf 59)) = some y0 := hg 0 _ rfl
    rw [cel59] at g0
    obtain ⟨v0, v0', l0, l0', e0, a0, a0', z0, z0', m0⟩ := marks_ofU g0
    obtain ⟨rfl, rfl⟩ : c0 = v0 ∧ c1 = v0' := by simpa using e0
    have g1 : DataW.trod enc Tryz.prog W 0 (fun _ => true) true m 9 ((([c0, c1, c2, c3, c4, c5, c6, c7, c8] : List Value).drop 2).take (Tryz.prog.cellsOf 9)) = some y1 := hg 1 _ rfl
    rw [cel9] at g1
    obtain ⟨s1, e1, rfl, w1⟩ := DataW.trod_string Tryz.underlying9 g1
    obtain rfl : c2 = .string s1 := by simpa using e1
    have g2 : DataW.trod enc Tryz.prog W 0 (fun _ => true) true m 3 ((([c0, c1, .string s1, c3, c4, c5, c6, c7, c8] : List Value).drop 3).take (Tryz.prog.cellsOf 3)) = some y2 := hg 2 _ rfl
    rw [cel3] at g2
    obtain ⟨n2, e2, rfl, w2⟩ := DataW.trod_int Tryz.underlying3 g2
    obtain rfl : c3 = .int .i64 n2 := by simpa using e2
    have b2 := bounds_i64 w2
    have g3 : DataW.trod enc Tryz.prog W 0 (fun _ => true) true m 78 ((([c0, c1, .string s1, .int .i64 n2, c4, c5, c6, c7, c8] : List Value).drop 4).take (Tryz.prog.cellsOf 78)) = some y3 := hg 3 _ rfl
    rw [cel78] at g3
    obtain ⟨v3, l3, e3, a3, z3, m3⟩ := row_ofU Tryz.underlying78 cel133 (by omega) (fun _ h => ShP.ln h) g3 (fun j _ => opensU_P j)
    obtain rfl : c4 = v3 := by simpa using e3
    have g4 : DataW.trod enc Tryz.prog W 0 (fun _ => true) true m 31 ((([c0, c1, .string s1, .int .i64 n2, c4, c5, c6, c7, c8] : List Value).drop 5).take (Tryz.prog.cellsOf 31)) = some y4 := hg 4 _ rfl
    rw [cel31] at g4
    obtain ⟨v4, l4, e4, a4, z4, m4⟩ := row_ofU Tryz.underlying31 cel75 (by omega) (fun _ h => ShV.ln h) g4 (fun j _ => opensU_V j)
    obtain rfl : c5 = v4 := by simpa using e4
    have g5 : DataW.trod enc Tryz.prog W 0 (fun _ => true) true m 32 ((([c0, c1, .string s1, .int .i64 n2, c4, c5, c6, c7, c8] : List Value).drop 6).take (Tryz.prog.cellsOf 32)) = some y5 := hg 5 _ rfl
    rw [cel32] at g5
    obtain ⟨v5, l5, e5, a5, z5, m5⟩ := row_ofU Tryz.underlying32 cel80 (by omega) (fun _ h => ShR.ln h) g5 (fun j hj => ih j (by omega))
    obtain rfl : c6 = v5 := by simpa using e5
    have g6 : DataW.trod enc Tryz.prog W 0 (fun _ => true) true m 33 ((([c0, c1, .string s1, .int .i64 n2, c4, c5, c6, c7, c8] : List Value).drop 7).take (Tryz.prog.cellsOf 33)) = some y6 := hg 6 _ rfl
    rw [cel33] at g6
    obtain ⟨v6, l6, e6, a6, z6, m6⟩ := row_ofU Tryz.underlying33 cel84 (by omega) (fun _ h => ShS.ln h) g6 (fun j _ => opensU_S j)
    obtain rfl : c7 = v6 := by simpa using e6
    have g7 : DataW.trod enc Tryz.prog W 0 (fun _ => true) true m 29 ((([c0, c1, .string s1, .int .i64 n2, c4, c5, c6, c7, c8] : List Value).drop 8).take (Tryz.prog.cellsOf 29)) = some y7 := hg 7 _ rfl
    rw [cel29] at g7
    obtain ⟨v7, l7, e7, a7, z7, m7⟩ := row_ofU Tryz.underlying29 cel9 (by omega) (fun _ h => ShT.ln h) g7 (fun j _ => opensU_T j)
    obtain rfl : c8 = v7 := by simpa using e7
    refine ⟨[.row l0, .row l0', .str s1, .int n2, .row l3, .row l4, .row l5, .row l6, .row l7], ⟨a0, a0', .str s1 w1, .int n2 b2.1 b2.2, a3, a4, a5, a6, a7, trivial⟩, .mk _ _ _ _ _ _ _ _ _ z0 z0' z3 z4 z5 z6 z7, ?_⟩
    rw [hxe]
    simp only [mRow, mD, List.map_cons, List.map_nil, Rows.uptoBulk, Rows.uptoBulkAll]
    have el1 : s1.data.toList.length = s1.size := by rw [Array.length_toList]; rfl
    omega
set_option maxHeartbeats 1000000 in
theorem opensU_G (n : Nat) : OpensU enc W ShG 35 n := by
  intro cs x h
  obtain ⟨xs, m, rfl, hxe, hl, hlen, hg⟩ := DataW.trod_struct Tryz.underlying35 h
  rw [cel35] at hl
  have hlen' : xs.length = 9 := hlen
  clear hlen
  obtain ⟨c0, c1, c2, c3, c4, c5, c6, c7, c8, rfl⟩ := list9 hl
  obtain ⟨y0, y1, y2, y3, y4, y5, y6, y7, y8, rfl⟩ := list9 hlen'
  clear hl hlen' h
  have g0 : DataW.trod enc Tryz.prog W 0 (fun _ => true) true m 9 ((([c0, c1, c2, c3, c4, c5, c6, c7, c8] : List Value).drop 0).take (Tryz.prog.cellsOf 9)) = some y0 := hg 0 _ rfl
  rw [cel9] at g0
  obtain ⟨s0, e0, rfl, w0⟩ := DataW.trod_string Tryz.underlying9 g0
  obtain rfl : c0 = .string s0 := by simpa using e0
  have g1 : DataW.trod enc Tryz.prog W 0 (fun _ => true) true m 29 ((([.string s0, c1, c2, c3, c4, c5, c6, c7, c8] : List Value).drop 1).take (Tryz.prog.cellsOf 29)) = some y1 := hg 1 _ rfl
  rw [cel29] at g1
  obtain ⟨v1, l1, e1, a1, z1, m1⟩ := row_ofU Tryz.underlying29 cel9 (by omega) (fun _ h => ShT.ln h) g1 (fun j _ => opensU_T j)
  obtain rfl : c1 = v1 := by simpa using e1
  have g2 : DataW.trod enc Tryz.prog W 0 (fun _ => true) true m 29 ((([.string s0, c1, c2, c3, c4, c5, c6, c7, c8] : List Value).drop 2).take (Tryz.prog.cellsOf 29)) = some y2 := hg 2 _ rfl
  rw [cel29] at g2
  obtain ⟨v2, l2, e2, a2, z2, m2⟩ := row_ofU Tryz.underlying29 cel9 (by omega) (fun _ h => ShT.ln h) g2 (fun j _ => opensU_T j)
  obtain rfl : c2 = v2 := by simpa using e2
  have g3 : DataW.trod enc Tryz.prog W 0 (fun _ => true) true m 29 ((([.string s0, c1, c2, c3, c4, c5, c6, c7, c8] : List Value).drop 3).take (Tryz.prog.cellsOf 29)) = some y3 := hg 3 _ rfl
  rw [cel29] at g3
  obtain ⟨v3, l3, e3, a3, z3, m3⟩ := row_ofU Tryz.underlying29 cel9 (by omega) (fun _ h => ShT.ln h) g3 (fun j _ => opensU_T j)
  obtain rfl : c3 = v3 := by simpa using e3
  have g4 : DataW.trod enc Tryz.prog W 0 (fun _ => true) true m 30 ((([.string s0, c1, c2, c3, c4, c5, c6, c7, c8] : List Value).drop 4).take (Tryz.prog.cellsOf 30)) = some y4 := hg 4 _ rfl
  rw [cel30] at g4
  obtain ⟨v4, l4, e4, a4, z4, m4⟩ := row_ofU Tryz.underlying30 cel62 (by omega) (fun _ h => ShC.ln h) g4 (fun j _ => opensU_C j)
  obtain rfl : c4 = v4 := by simpa using e4
  have g5 : DataW.trod enc Tryz.prog W 0 (fun _ => true) true m 31 ((([.string s0, c1, c2, c3, c4, c5, c6, c7, c8] : List Value).drop 5).take (Tryz.prog.cellsOf 31)) = some y5 := hg 5 _ rfl
  rw [cel31] at g5
  obtain ⟨v5, l5, e5, a5, z5, m5⟩ := row_ofU Tryz.underlying31 cel75 (by omega) (fun _ h => ShV.ln h) g5 (fun j _ => opensU_V j)
  obtain rfl : c5 = v5 := by simpa using e5
  have g6 : DataW.trod enc Tryz.prog W 0 (fun _ => true) true m 32 ((([.string s0, c1, c2, c3, c4, c5, c6, c7, c8] : List Value).drop 6).take (Tryz.prog.cellsOf 32)) = some y6 := hg 6 _ rfl
  rw [cel32] at g6
  obtain ⟨v6, l6, e6, a6, z6, m6⟩ := row_ofU Tryz.underlying32 cel80 (by omega) (fun _ h => ShR.ln h) g6 (fun j _ => opensU_R j)
  obtain rfl : c6 = v6 := by simpa using e6
  have g7 : DataW.trod enc Tryz.prog W 0 (fun _ => true) true m 33 ((([.string s0, c1, c2, c3, c4, c5, c6, c7, c8] : List Value).drop 7).take (Tryz.prog.cellsOf 33)) = some y7 := hg 7 _ rfl
  rw [cel33] at g7
  obtain ⟨v7, l7, e7, a7, z7, m7⟩ := row_ofU Tryz.underlying33 cel84 (by omega) (fun _ h => ShS.ln h) g7 (fun j _ => opensU_S j)
  obtain rfl : c7 = v7 := by simpa using e7
  have g8 : DataW.trod enc Tryz.prog W 0 (fun _ => true) true m 29 ((([.string s0, c1, c2, c3, c4, c5, c6, c7, c8] : List Value).drop 8).take (Tryz.prog.cellsOf 29)) = some y8 := hg 8 _ rfl
  rw [cel29] at g8
  obtain ⟨v8, l8, e8, a8, z8, m8⟩ := row_ofU Tryz.underlying29 cel9 (by omega) (fun _ h => ShT.ln h) g8 (fun j _ => opensU_T j)
  obtain rfl : c8 = v8 := by simpa using e8
  refine ⟨[.str s0, .row l1, .row l2, .row l3, .row l4, .row l5, .row l6, .row l7, .row l8], ⟨.str s0 w0, a1, a2, a3, a4, a5, a6, a7, a8, trivial⟩, .mk _ _ _ _ _ _ _ _ _ z1 z2 z3 z4 z5 z6 z7 z8, ?_⟩
  rw [hxe]
  simp only [mRow, mD, List.map_cons, List.map_nil, Rows.uptoBulk, Rows.uptoBulkAll]
  have el0 : s0.data.toList.length = s0.size := by rw [Array.length_toList]; rfl
  omega
end
end Go.Proofs.YtciijpahjjoppaaGreat
