/-
  The document's Read answers what the program's does.
-/
import Derived.Test.YtpcldpnaljheoaaGreatDoorRrd
import Derived.Test.YtpcldpnaljheoaaGreatDoorZy7
namespace Go.Proofs.YtpcldpnaljheoaaGreatDoor
open Go.RowKit Go.Deep Go.Sort

theorem lx_post (s : ByteArray) (W : World) : Calls Tryz.prog 17 #[.int .i64 0, .string s] W (LxPost (lexD s) (tksOf s) W) := by
  refine (X.P.refAll3 s W).mono ?_
  unfold X.P.ToksB LxPost
  rintro e w1 ⟨v, rfl, o1, b1⟩
  refine ⟨b1, ?_⟩
  have hds : X.P.diagV s (X.P.lexAll s) = dgV (lexD s) := rfl
  rw [hds]
  by_cases hc : (X.P.lexAll s).code = 0
  · obtain ⟨g, cap, rfl, _, tk⟩ := toks_at o1 hc
    exact .inr ⟨hc, g, cap, rfl, tk, tks_ok hc⟩
  · exact .inl ⟨hc, v, rfl⟩
theorem red_eq (LD PD : Dg) (ES : RS) (t : Tok) (D3 : Dg) (h : faultD ES = if t.kind = 0 then ⟨0, 0, 0, 0⟩ else D3) : (if LD.c ≠ 0 then LD else if PD.c ≠ 0 then PD else faultD ES) = if LD.c ≠ 0 then LD else if PD.c ≠ 0 then PD else if t.kind = 0 then ⟨0, 0, 0, 0⟩ else D3 := by rw [h]
theorem end_eq (s : ByteArray) : faultD (endS s) = if (tkAt (tksOf s) (parX (tksOf s) 0).2.k).kind = 0 then ⟨0, 0, 0, 0⟩ else wrD (tkAt (tksOf s) (parX (tksOf s) 0).2.k) := by
  have h := endS_tk s
  generalize endS s = ES at h
  generalize (parX (tksOf s) 0).2.k = k at h ⊢
  rw [h]
  split
  · rfl
  · exact fault_k _ _
theorem redD_eq (s : ByteArray) : redD s = if (lexD s).c ≠ 0 then lexD s else if (parD (tksOf s) 0).c ≠ 0 then parD (tksOf s) 0 else faultD (endS s) := rfl
theorem rRead_any (s : ByteArray) (w : World) : Calls Tryz.prog 11 #[.int .i64 0, .string s] w (ReadPost s w) := by
  have h := rRead_gen s w (lexD s) (tksOf s) (parX (tksOf s) 0) (parD (tksOf s) 0) (tkAt (tksOf s) (parX (tksOf s) 0).2.k) (wrD (tkAt (tksOf s) (parX (tksOf s) 0).2.k)) (redD s)
    (lx_post s) (fun g cap W hW => rParse_any (cap := cap) (k := 0) hW (Nat.zero_le _))
    (fun g cap W hW => rtok_any (cap := cap) (parX (tksOf s) 0).2.k hW) (fun g cap W hW => rWrong_any (cap := cap) (parX (tksOf s) 0).2.k hW)
    (code_ne _) ((redD_eq s).trans (red_eq (lexD s) (parD (tksOf s) 0) (endS s) _ _ (end_eq s)))
  exact h
end Go.Proofs.YtpcldpnaljheoaaGreatDoor
