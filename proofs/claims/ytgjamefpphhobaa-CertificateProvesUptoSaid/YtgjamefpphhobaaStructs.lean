/- Slices of structs of integers that came in as parameters. -/
import Derived.Test.YtgjamefpphhobaaFields
import Derived.Test.YtgjamefpphhobaaTexts
namespace Go.Proofs.Ytgjamefpphhobaa
open Go.RowKit Go.WideShapes Go.ChangeShapes Go.ChangeMaps

/-- A slice of structs of n integers that lies below block B. -/
def LiesR (w : World) (k : IntKind) (n B : Nat) (A : Option Addr) (rows : List (List Int)) : Prop :=
  0 < rows.length → ∃ ad : Addr, A = some ad ∧ ad.block < B ∧ ∀ i, i < rows.length → ∀ j, j < n → w.cell? (ad.add (i * n + j)) = some (.int k ((rows.getD i []).getD j 0))

theorem LiesR.below {w w' : World} {k : IntKind} {n B : Nat} {A : Option Addr} {rows : List (List Int)} (h : LiesR w k n B A rows) (hb : Below B w w') : LiesR w' k n B A rows := fun h0 => by
  obtain ⟨ad, e, hlt, hc⟩ := h h0
  exact ⟨ad, e, hlt, fun i hi j hj => (hb.cell (by rw [block_add_of]; exact hlt)).trans (hc i hi j hj)⟩
theorem LiesR.more {w : World} {k : IntKind} {n B B' : Nat} {A : Option Addr} {rows : List (List Int)} (h : LiesR w k n B A rows) (hB : B ≤ B') : LiesR w k n B' A rows := fun h0 => by
  obtain ⟨ad, e, hlt, hc⟩ := h h0
  exact ⟨ad, e, Nat.lt_of_lt_of_le hlt hB, hc⟩
theorem LiesR.later {w w' : World} {k : IntKind} {n : Nat} {A : Option Addr} {rows : List (List Int)} (h : LiesR w k n w.heap.size A rows) (hb : Below w.heap.size w w') : LiesR w' k n w'.heap.size A rows := (h.below hb).more hb.size

section
variable {H : Type} {enc : TypeId × Value → H} {P : Program}

end

end Go.Proofs.Ytgjamefpphhobaa
