/- Slices of texts that came in as parameters, and slices of any values that lie in memory. -/
import Derived.Test.YtgjamefpphhobaaLaw
import Derived.SliceStrings
namespace Go.Proofs.Ytgjamefpphhobaa
open Go.RowKit Go.WideShapes Go.ChangeShapes Go.ChangeMaps

/-- A slice of values that lies below block B. -/
def LiesV (w : World) (B : Nat) (A : Option Addr) (vs : List Value) : Prop :=
  0 < vs.length → ∃ ad : Addr, A = some ad ∧ ad.block < B ∧ ∀ i v, vs[i]? = some v → w.cell? (ad.add i) = some v

theorem LiesV.below {w w' : World} {B : Nat} {A : Option Addr} {vs : List Value} (h : LiesV w B A vs) (hb : Below B w w') : LiesV w' B A vs := fun h0 => by
  obtain ⟨ad, e, hlt, hc⟩ := h h0
  exact ⟨ad, e, hlt, fun i v hi => (hb.cell (by rw [block_add_of]; exact hlt)).trans (hc i v hi)⟩
theorem LiesV.more {w : World} {B B' : Nat} {A : Option Addr} {vs : List Value} (h : LiesV w B A vs) (hB : B ≤ B') : LiesV w B' A vs := fun h0 => by
  obtain ⟨ad, e, hlt, hc⟩ := h h0
  exact ⟨ad, e, Nat.lt_of_lt_of_le hlt hB, hc⟩
theorem LiesV.later {w w' : World} {A : Option Addr} {vs : List Value} (h : LiesV w w.heap.size A vs) (hb : Below w.heap.size w w') : LiesV w' w'.heap.size A vs := (h.below hb).more hb.size

section
variable {H : Type} {enc : TypeId × Value → H} {P : Program}

end

end Go.Proofs.Ytgjamefpphhobaa
