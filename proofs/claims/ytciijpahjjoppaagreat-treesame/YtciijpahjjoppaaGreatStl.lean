/-
  A struct loaded whole in a region that draws its order.
-/
import Derived.Test.YtciijpahjjoppaaGreatBxj
import Derived.StillTailTactics
namespace Go.Proofs.YtciijpahjjoppaaGreat
open Go.RowKit Go.Deep

theorem wpStill_loadAgg {ops : Array Oper} {rest : List Oper} {o : Oper} {a : Act} {Q : Act → Prop} (hgd : o.guard = none) (x : Operand) (T : TypeId) (ho : o.op = .load T x) (k : Nat) (hag : ∀ w, (isAgg T).run Tryz.prog w = .ok true w) (hsz : ∀ w, (sizeOf T).run Tryz.prog w = .ok k w)
    {w : World} (b off : Nat) (hx : a.eval x = .pointer (some ⟨b, off, none⟩)) (vs : List Value) (hlen : vs.length = k) (hc : ∀ j v, vs[j]? = some v → w.cell? ⟨b, off + j, none⟩ = some v)
    (hk : wpStill Tryz.prog ops w Q rest (a.put o.dst (.agg ⟨vs⟩))) : wpStill Tryz.prog ops w Q (o :: rest) a := by
  refine wpStill_step fun K hK => ?_
  simp only [Region.wanted, hgd, if_true]
  unfold Oper.still execOp
  simp only [ho, hx]
  rw [Sem.run_bind, run_loadAgg hag hsz hlen (fun j v hv => by rw [add_mid2]; exact hc j v hv)]
  exact ⟨rfl, hK _ hk⟩
end Go.Proofs.YtciijpahjjoppaaGreat
