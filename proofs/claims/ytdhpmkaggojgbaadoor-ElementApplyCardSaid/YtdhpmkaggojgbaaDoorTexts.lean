/- Slices of texts that came in as parameters, and slices of any values that lie in memory. -/
import Derived.Test.YtdhpmkaggojgbaaDoorLaw
import Derived.SliceStrings
namespace Go.Proofs.YtdhpmkaggojgbaaDoor
open Go.RowKit Go.WideShapes Go.ChangeShapes Go.ChangeMaps

/-- A slice of values that lies below block B. -/
def LiesV (w : World) (B : Nat) (A : Option Addr) (vs : List Value) : Prop :=
  0 < vs.length → ∃ ad : Addr, A = some ad ∧ ad.block < B ∧ ∀ i v, vs[i]? = some v → w.cell? (ad.add i) = some v

theorem LiesV.below {w w' : World} {B : Nat} {A : Option Addr} {vs : List Value} (h : LiesV w B A vs) (hb : Below B w w') : LiesV w' B A vs := fun h0 => by
  obtain ⟨ad, e, hlt, hc⟩ := h h0
  exact ⟨ad, e, hlt, fun i v hi => (hb.cell (by rw [block_add_of]; exact hlt)).trans (hc i v hi)⟩
theorem LiesV.more {w : World} {B B' : Nat} {A : Option Addr} {vs : List Value} (h : LiesV w B A vs) (hB : B ≤ B') : LiesV w B' A vs := fun h0 => by
  obtain ⟨ad, e, hlt, hc⟩ := h h0
  exact ⟨ad, e, Nat.lt_of_lt_of_le hlt hB, hc⟩
theorem LiesV.later {w w' : World} {A : Option Addr} {vs : List Value} (h : LiesV w w.heap.size A vs) (hb : Below w.heap.size w w') : LiesV w' w'.heap.size A vs := (h.below hb).more hb.size

theorem LiesV.textAt {w : World} {B : Nat} {A : Option Addr} {l : List ByteArray} (h : LiesV w B A (l.map Value.string)) {k : Nat} (hk : k < l.length) : ∃ ad : Addr, A = some ad ∧ w.cell? (ad.add k) = some (.string (l.getD k ByteArray.empty)) := by
  obtain ⟨ad, e, _, hc⟩ := h (by rw [List.length_map]; omega)
  exact ⟨ad, e, hc k _ (by simp [List.getD, hk])⟩

section
variable {H : Type} {enc : TypeId × Value → H} {P : Program}

theorem comesTexts {t e : TypeId} {w : World} {r : Reach} {b0 : Nat} {v : Value} {d : DataW H} {ps : List MemPlace} (ht : P.underlying t = some (.slice e)) (he : P.underlying e = some .string) (hc : P.cellsOf e = 1)
    (hval : Value.okWide P w r b0 t v) (h : DataW.Trod enc P w 0 (fun _ => true) true t v d ps) :
    ∃ (A : Option Addr) (cap : Nat) (ss : List ByteArray), v = .slice A ss.length cap ∧ LiesV w w.heap.size A (ss.map Value.string) ∧ (∀ s ∈ ss, s.size ≤ maxLen) ∧ (ss.length ≤ cap ∧ cap ≤ maxLen) ∧ (A = none → cap = 0) := by
  obtain ⟨a0, len0, cap0, rfl⟩ := okWide_slice ht hval
  obtain ⟨fuel, hf⟩ := h
  rcases open_strings ht he hc hf with ⟨hcs, hx⟩ | ⟨a, len, cap, ss, hcs, _, hl, hm, hz, hx, hcell, hwz⟩
  · have hv : (Value.slice a0 len0 cap0) = .slice none 0 0 := by simpa [Value.cells] using hcs
    rw [hv]
    exact ⟨none, 0, [], rfl, fun h => by simp at h, fun _ h => (by cases h), ⟨by simp, by simp⟩, fun _ => rfl⟩
  · have hv : (Value.slice a0 len0 cap0) = .slice (some a) len cap := by simpa [Value.cells] using hcs
    have hlen : (ss.take len).length = len := by
      rw [List.length_take, hz, if_pos rfl]
      omega
    refine ⟨some a, cap, ss.take len, by rw [hlen]; exact hv, fun h0 => ⟨a, rfl, ?_, fun i v hi => ?_⟩, fun n hn => hwz n (List.mem_of_mem_take hn), ⟨by rw [hlen]; exact hl, hm⟩, fun h => by cases h⟩
    · rw [List.length_map, hlen] at h0
      have := cell_lt (hcell 0 (by rw [hz, if_pos rfl]; omega))
      rw [block_add_of] at this
      exact this
    · rw [List.getElem?_map, Option.map_eq_some_iff] at hi
      obtain ⟨s, hs, rfl⟩ := hi
      have hi2 : i < (ss.take len).length := (List.getElem?_eq_some_iff.1 hs).1
      rw [hlen] at hi2
      have hi3 : i < ss.length := by rw [hz, if_pos rfl]; omega
      rw [hcell i hi3]
      rw [List.getElem?_take, if_pos hi2, List.getElem?_eq_getElem hi3] at hs
      cases hs
      simp [List.getD, hi3]
end

end Go.Proofs.YtdhpmkaggojgbaaDoor
