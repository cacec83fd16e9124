/- Stopping the walk at one operation: the walk ends there, and the prover goes on by hand. -/
import Derived.Test.YtanhljpmknfabaaDoorBase
namespace Go.Proofs.YtanhljpmknfabaaDoor
open Go.RowKit
def Stop (p : Prop) : Prop := p
theorem stop_at {P : Program} {w : World} {ops : Array Oper} {rest : List Oper} {o : Oper} {a : Act} {Q : Exit → Act → World → Prop} (h : Stop (wpList P ops Q (o :: rest) a w)) : wpList P ops Q (o :: rest) a w := h
theorem frozen_of {w : World} {g j : Nat} {cur : Array Value} {e : TypeId} (hg : w.heap[g]? = some (.cells cur e (0, 0))) : w.frozen? ⟨g, j, none⟩ = false := by
  simp [World.frozen?, hg]
end Go.Proofs.YtanhljpmknfabaaDoor
