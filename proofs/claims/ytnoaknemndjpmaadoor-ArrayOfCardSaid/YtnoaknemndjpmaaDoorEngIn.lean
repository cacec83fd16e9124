/- What comes in as a parameter, as the walk over values knows it. -/
import Derived.Test.YtnoaknemndjpmaaDoorFields
import Derived.Test.YtnoaknemndjpmaaDoorEng
import Derived.Deep.Strs
namespace Go.Proofs.YtnoaknemndjpmaaDoor
open Go.RowKit Go.WideShapes Go.ChangeShapes Go.Proofs.YtnoaknemndjpmaaDoor.Eng

section
variable {H : Type} {enc : TypeId × Value → H} {P : Program}

theorem es_ints {ok : Nat → Prop} {w : World} {k : IntKind} {b : Nat} : ∀ (ys : List Int) (o : Nat), (∀ i, i < ys.length → w.cell? ⟨b, o + i, none⟩ = some (.int k (ys.getD i 0))) → RepEs ok w 1 b o (ys.map fun z => [.c (.int k z)])
  | [], _, _ => trivial
  | y :: ys, o, h => by
    refine ⟨rfl, ⟨⟨_, h 0 (by simp), rfl, rfl⟩, trivial⟩, es_ints ys (o + 1) fun i hi => ?_⟩
    have := h (i + 1) (by simpa using hi)
    rw [show o + 1 + i = o + (i + 1) by omega]
    simpa using this

theorem spot_none {w : World} {a : Addr} {v : Value} (h : w.cell? a = some v) : a.spot = none := by
  unfold World.cell? at h
  split at h
  · split at h
    · cases h
    · rename_i hs
      simpa using hs
  · cases h

/-- A slice of integers. -/
theorem in_ints {t e : TypeId} {k : IntKind} {w : World} {fuel : Nat} {cs : List Value} {x : DataW H × List MemPlace} (ht : P.underlying t = some (.slice e)) (he : P.underlying e = some (.int k)) (hc : P.cellsOf e = 1)
    (h : DataW.trod enc P w 0 (fun _ => true) true fuel t cs = some x) :
    ∃ (zs : List Int) (v : Value), cs = [v] ∧ RepD (fun b => b < w.heap.size) w (.sl false 1 (zs.map fun z => [.c (.int k z)])) v ∧ v.oneCell' = true ∧ zs.length ≤ maxLen := by
  rcases open_ints ht he hc h with ⟨hcs, hx⟩ | ⟨a, len, cap, zs, hcs, _, hl, hm, hz, hx, hcell, hwz⟩
  · exact ⟨[], _, hcs, ⟨none, 0, rfl, ⟨fun h => (by cases h), fun _ => rfl⟩, fun h0 => by simp at h0⟩, rfl, by simp⟩
  · have hzl : zs.length = cap := by rw [hz, if_pos rfl]
    have hlen : (zs.take len).length = len := by rw [List.length_take]; omega
    refine ⟨zs.take len, _, hcs, ⟨some a, cap, by rw [List.length_map, hlen], ⟨fun h => (by cases h), fun h => (by cases h)⟩, fun h0 => ?_⟩, rfl, by omega⟩
    rw [List.length_map, hlen] at h0
    have h00 := hcell 0 (by omega)
    have hs : a.spot = none := spot_none (a := a) (by simpa [Addr.add] using h00)
    obtain ⟨b, o, sp⟩ := a
    obtain rfl : sp = none := hs
    refine ⟨b, o, rfl, ?_, es_ints _ o fun i hi => ?_⟩
    · have := cell_lt h00
      rwa [block_add_of] at this
    · rw [hlen] at hi
      have := hcell i (by omega)
      rw [Eng.add_plain] at this
      rw [this]
      simp [List.getD, hi]

/-- A string. -/
theorem in_str {t : TypeId} {w : World} {fuel : Nat} {cs : List Value} {x : DataW H × List MemPlace} (ht : P.underlying t = some .string) (h : DataW.trod enc P w 0 (fun _ => true) true fuel t cs = some x) : ∃ s : ByteArray, cs = [.string s] ∧ s.size ≤ maxLen := by
  obtain ⟨s, h1, _, h2⟩ := DataW.trod_string ht h
  exact ⟨s, h1, h2⟩

/-- A struct of a string and two slices of integers. -/
theorem in_sii {t e : TypeId} {f0 f1 f2 : Field} {k : IntKind} {w : World} {r : Reach} {b0 : Nat} {v : Value} {d : DataW H} {ps : List MemPlace} (ht : P.underlying t = some (.struct #[f0, f1, f2])) (o0 : f0.offset = 0) (o1 : f1.offset = 1) (o2 : f2.offset = 2)
    (h0 : P.underlying f0.type = some .string) (h1 : P.underlying f1.type = some (.slice e)) (h2 : P.underlying f2.type = some (.slice e)) (he : P.underlying e = some (.int k)) (hc : P.cellsOf e = 1) (c0 : P.cellsOf f0.type = 1) (c1 : P.cellsOf f1.type = 1) (c2 : P.cellsOf f2.type = 1) (hct : P.cellsOf t = 3)
    (hval : Value.okWide P w r b0 t v) (h : DataW.Trod enc P w 0 (fun _ => true) true t v d ps) :
    ∃ (s : ByteArray) (xs ys : List Int), RepD (fun b => b < w.heap.size) w (.agg [.c (.string s), .sl false 1 (xs.map fun z => [.c (.int k z)]), .sl false 1 (ys.map fun z => [.c (.int k z)])]) v := by
  obtain ⟨cs, rfl, hs⟩ := okWide_struct ht hval
  obtain ⟨fuel, hf⟩ := h
  obtain ⟨y0, y1, y2, n, _, hl, q0, q1, q2⟩ := Go.Deep.trod_struct3 ht hf
  rw [o0, c0] at q0
  rw [o1, c1] at q1
  rw [o2, c2] at q2
  obtain ⟨s, e0, _⟩ := in_str h0 q0
  obtain ⟨xs, v1, e1, r1, t1, _⟩ := in_ints h1 he hc q1
  obtain ⟨ys, v2, e2, r2, t2, _⟩ := in_ints h2 he hc q2
  refine ⟨s, xs, ys, cs, rfl, ?_, ?_⟩
  all_goals
    obtain ⟨l⟩ := cs
    rw [hct] at hs
    simp only [Value.cells] at e0 e1 e2
    match l, hs with
    | [a, b, c], _ =>
      simp at e0 e1 e2
      subst e0 e1 e2
      first
        | exact ⟨_, _, rfl, rfl, _, _, rfl, r1, _, _, rfl, r2, rfl⟩
        | (intro u hu; simp at hu; rcases hu with rfl | rfl | rfl <;> first | rfl | exact t1 | exact t2)
end

end Go.Proofs.YtnoaknemndjpmaaDoor
