/- What comes in as a parameter, as the walk over values knows it. -/
import Derived.Test.YtdhpmkaggojgbaaDoorFields
import Derived.Test.YtdhpmkaggojgbaaDoorEng
import Derived.Deep.Strs
import Derived.Test.YtdhpmkaggojgbaaDoorStructs
namespace Go.Proofs.YtdhpmkaggojgbaaDoor
set_option linter.unusedVariables false
open Go.RowKit Go.WideShapes Go.ChangeShapes Go.Proofs.YtdhpmkaggojgbaaDoor.Eng

section
variable {H : Type} {enc : TypeId × Value → H} {P : Program}

theorem es_ints {ok : Nat → Prop} {w : World} {k : IntKind} {b : Nat} : ∀ (ys : List Int) (o : Nat), (∀ i, i < ys.length → w.cell? ⟨b, o + i, none⟩ = some (.int k (ys.getD i 0))) → RepEs ok w 1 b o (ys.map fun z => [.c (.int k z)])
  | [], _, _ => trivial
  | y :: ys, o, h => by
    refine ⟨rfl, ⟨⟨_, h 0 (by simp), rfl, rfl⟩, trivial⟩, es_ints ys (o + 1) fun i hi => ?_⟩
    have := h (i + 1) (by simpa using hi)
    rw [show o + 1 + i = o + (i + 1) by omega]
    simpa using this

theorem spot_none {w : World} {a : Addr} {v : Value} (h : w.cell? a = some v) : a.spot = none := by
  unfold World.cell? at h
  split at h
  · split at h
    · cases h
    · rename_i hs
      simpa using hs
  · cases h

/-- A slice of integers. -/
theorem in_ints {t e : TypeId} {k : IntKind} {w : World} {fuel : Nat} {cs : List Value} {x : DataW H × List MemPlace} (ht : P.underlying t = some (.slice e)) (he : P.underlying e = some (.int k)) (hc : P.cellsOf e = 1)
    (h : DataW.trod enc P w 0 (fun _ => true) true fuel t cs = some x) :
    ∃ (zs : List Int) (v : Value), cs = [v] ∧ RepD (fun b => b < w.heap.size) w (.sl false 1 (zs.map fun z => [.c (.int k z)])) v ∧ v.oneCell' = true ∧ zs.length ≤ maxLen ∧ (∀ z ∈ zs, (Lit.int k z).wf = true) := by
  rcases open_ints ht he hc h with ⟨hcs, hx⟩ | ⟨a, len, cap, zs, hcs, _, hl, hm, hz, hx, hcell, hwz⟩
  · exact ⟨[], _, hcs, ⟨none, 0, rfl, ⟨fun h => (by cases h), fun _ => rfl, Nat.le_refl _⟩, fun h0 => by simp at h0⟩, rfl, by simp, by simp⟩
  · have hzl : zs.length = cap := by rw [hz, if_pos rfl]
    have hlen : (zs.take len).length = len := by rw [List.length_take]; omega
    refine ⟨zs.take len, _, hcs, ⟨some a, cap, by rw [List.length_map, hlen], ⟨fun h => (by cases h), fun h => (by cases h), by rw [List.length_map, hlen]; exact hl⟩, fun h0 => ?_⟩, rfl, by omega, fun z hz' => hwz z (List.mem_of_mem_take hz')⟩
    rw [List.length_map, hlen] at h0
    have h00 := hcell 0 (by omega)
    have hs : a.spot = none := spot_none (a := a) (by simpa [Addr.add] using h00)
    obtain ⟨b, o, sp⟩ := a
    obtain rfl : sp = none := hs
    refine ⟨b, o, rfl, ?_, es_ints _ o fun i hi => ?_⟩
    · have := cell_lt h00
      rwa [block_add_of] at this
    · rw [hlen] at hi
      have := hcell i (by omega)
      rw [Eng.add_plain] at this
      rw [this]
      simp [List.getD, hi]

/-- A string. -/
theorem in_str {t : TypeId} {w : World} {fuel : Nat} {cs : List Value} {x : DataW H × List MemPlace} (ht : P.underlying t = some .string) (h : DataW.trod enc P w 0 (fun _ => true) true fuel t cs = some x) : ∃ s : ByteArray, cs = [.string s] ∧ s.size ≤ maxLen := by
  obtain ⟨s, h1, _, h2⟩ := DataW.trod_string ht h
  exact ⟨s, h1, h2⟩

/-- A struct of a string and two slices of integers. -/
theorem in_sii {t e : TypeId} {f0 f1 f2 : Field} {k : IntKind} {w : World} {r : Reach} {b0 : Nat} {v : Value} {d : DataW H} {ps : List MemPlace} (ht : P.underlying t = some (.struct #[f0, f1, f2])) (o0 : f0.offset = 0) (o1 : f1.offset = 1) (o2 : f2.offset = 2)
    (h0 : P.underlying f0.type = some .string) (h1 : P.underlying f1.type = some (.slice e)) (h2 : P.underlying f2.type = some (.slice e)) (he : P.underlying e = some (.int k)) (hc : P.cellsOf e = 1) (c0 : P.cellsOf f0.type = 1) (c1 : P.cellsOf f1.type = 1) (c2 : P.cellsOf f2.type = 1) (hct : P.cellsOf t = 3)
    (hval : Value.okWide P w r b0 t v) (h : DataW.Trod enc P w 0 (fun _ => true) true t v d ps) :
    ∃ (s : ByteArray) (xs ys : List Int), RepD (fun b => b < w.heap.size) w (.agg [.c (.string s), .sl false 1 (xs.map fun z => [.c (.int k z)]), .sl false 1 (ys.map fun z => [.c (.int k z)])]) v := by
  obtain ⟨cs, rfl, hs⟩ := okWide_struct ht hval
  obtain ⟨fuel, hf⟩ := h
  obtain ⟨y0, y1, y2, n, _, hl, q0, q1, q2⟩ := Go.Deep.trod_struct3 ht hf
  rw [o0, c0] at q0
  rw [o1, c1] at q1
  rw [o2, c2] at q2
  obtain ⟨s, e0, _⟩ := in_str h0 q0
  obtain ⟨xs, v1, e1, r1, t1, _⟩ := in_ints h1 he hc q1
  obtain ⟨ys, v2, e2, r2, t2, _⟩ := in_ints h2 he hc q2
  refine ⟨s, xs, ys, cs, rfl, ?_, ?_⟩
  all_goals
    obtain ⟨l⟩ := cs
    rw [hct] at hs
    simp only [Value.cells] at e0 e1 e2
    match l, hs with
    | [a, b, c], _ =>
      simp at e0 e1 e2
      subst e0 e1 e2
      first
        | exact ⟨_, _, rfl, rfl, _, _, rfl, r1, _, _, rfl, r2, rfl⟩
        | (intro u hu; simp at hu; rcases hu with rfl | rfl | rfl <;> first | rfl | exact t1 | exact t2)

theorem in_int {t : TypeId} {k : IntKind} {w : World} {fuel : Nat} {cs : List Value} {x : DataW H × List MemPlace} (ht : P.underlying t = some (.int k)) (h : DataW.trod enc P w 0 (fun _ => true) true fuel t cs = some x) : ∃ s : Int, cs = [.int k s] ∧ (Lit.int k s).wf = true := by
  obtain ⟨s, h1, _, h2⟩ := DataW.trod_int ht h
  exact ⟨s, h1, h2⟩

/-- A struct of an integer and two slices of integers. -/
theorem in_iii {t e : TypeId} {f0 f1 f2 : Field} {k : IntKind} {w : World} {r : Reach} {b0 : Nat} {v : Value} {d : DataW H} {ps : List MemPlace} (ht : P.underlying t = some (.struct #[f0, f1, f2])) (o0 : f0.offset = 0) (o1 : f1.offset = 1) (o2 : f2.offset = 2)
    (h0 : P.underlying f0.type = some (.int k)) (h1 : P.underlying f1.type = some (.slice e)) (h2 : P.underlying f2.type = some (.slice e)) (he : P.underlying e = some (.int k)) (hc : P.cellsOf e = 1) (c0 : P.cellsOf f0.type = 1) (c1 : P.cellsOf f1.type = 1) (c2 : P.cellsOf f2.type = 1) (hct : P.cellsOf t = 3)
    (hval : Value.okWide P w r b0 t v) (h : DataW.Trod enc P w 0 (fun _ => true) true t v d ps) :
    ∃ (s : Int) (xs ys : List Int), RepD (fun b => b < w.heap.size) w (.agg [.c (.int k s), .sl false 1 (xs.map fun z => [.c (.int k z)]), .sl false 1 (ys.map fun z => [.c (.int k z)])]) v ∧ xs.length ≤ maxLen ∧ ys.length ≤ maxLen := by
  obtain ⟨cs, rfl, hs⟩ := okWide_struct ht hval
  obtain ⟨fuel, hf⟩ := h
  obtain ⟨y0, y1, y2, n, _, hl, q0, q1, q2⟩ := Go.Deep.trod_struct3 ht hf
  rw [o0, c0] at q0
  rw [o1, c1] at q1
  rw [o2, c2] at q2
  obtain ⟨s, e0, _⟩ := in_int h0 q0
  obtain ⟨xs, v1, e1, r1, t1, hx, _⟩ := in_ints h1 he hc q1
  obtain ⟨ys, v2, e2, r2, t2, hy, _⟩ := in_ints h2 he hc q2
  refine ⟨s, xs, ys, ⟨cs, rfl, ?_, ?_⟩, hx, hy⟩
  all_goals
    obtain ⟨l⟩ := cs
    rw [hct] at hs
    simp only [Value.cells] at e0 e1 e2
    match l, hs with
    | [a, b, c], _ =>
      simp at e0 e1 e2
      subst e0 e1 e2
      first
        | exact ⟨_, _, rfl, rfl, _, _, rfl, r1, _, _, rfl, r2, rfl⟩
        | (intro u hu; simp at hu; rcases hu with rfl | rfl | rfl <;> first | rfl | exact t1 | exact t2)

/-- A parameter that is a slice of integers. -/
theorem in_intsP {t e : TypeId} {k : IntKind} {w : World} {r : Reach} {b0 : Nat} {v : Value} {d : DataW H} {ps : List MemPlace} (ht : P.underlying t = some (.slice e)) (he : P.underlying e = some (.int k)) (hc : P.cellsOf e = 1) (hval : Value.okWide P w r b0 t v) (h : DataW.Trod enc P w 0 (fun _ => true) true t v d ps) :
    ∃ zs : List Int, RepD (fun b => b < w.heap.size) w (.sl false 1 (zs.map fun z => [.c (.int k z)])) v ∧ zs.length ≤ maxLen ∧ ∀ z ∈ zs, (Lit.int k z).wf = true := by
  obtain ⟨a0, len0, cap0, rfl⟩ := okWide_slice ht hval
  obtain ⟨fuel, hf⟩ := h
  obtain ⟨zs, v, h1, h2, _, h3, h4⟩ := in_ints ht he hc hf
  have : v = .slice a0 len0 cap0 := by simpa [Value.cells] using h1.symm
  subst this
  exact ⟨zs, h2, h3, h4⟩

/-- The cells of a struct of a string and two slices of integers. -/
theorem in_siiC {t e : TypeId} {f0 f1 f2 : Field} {k : IntKind} {w : World} {fuel : Nat} {cs : List Value} {x : DataW H × List MemPlace} (ht : P.underlying t = some (.struct #[f0, f1, f2])) (o0 : f0.offset = 0) (o1 : f1.offset = 1) (o2 : f2.offset = 2)
    (h0 : P.underlying f0.type = some .string) (h1 : P.underlying f1.type = some (.slice e)) (h2 : P.underlying f2.type = some (.slice e)) (he : P.underlying e = some (.int k)) (hc : P.cellsOf e = 1) (c0 : P.cellsOf f0.type = 1) (c1 : P.cellsOf f1.type = 1) (c2 : P.cellsOf f2.type = 1) (hct : P.cellsOf t = 3)
    (hs : cs.length = 3) (hf : DataW.trod enc P w 0 (fun _ => true) true fuel t cs = some x) :
    ∃ (s : ByteArray) (xs ys : List Int) (v1 v2 : Value), cs = [.string s, v1, v2] ∧ RepD (fun b => b < w.heap.size) w (.sl false 1 (xs.map fun z => [.c (.int k z)])) v1 ∧ v1.oneCell' = true ∧ RepD (fun b => b < w.heap.size) w (.sl false 1 (ys.map fun z => [.c (.int k z)])) v2 ∧ v2.oneCell' = true := by
  obtain ⟨y0, y1, y2, n, _, hl, q0, q1, q2⟩ := Go.Deep.trod_struct3 ht hf
  rw [o0, c0] at q0
  rw [o1, c1] at q1
  rw [o2, c2] at q2
  obtain ⟨s, e0, _⟩ := in_str h0 q0
  obtain ⟨xs, v1, e1, r1, t1, _⟩ := in_ints h1 he hc q1
  obtain ⟨ys, v2, e2, r2, t2, _⟩ := in_ints h2 he hc q2
  match cs, hs with
  | [a, b, c], _ =>
    simp at e0 e1 e2
    subst e0 e1 e2
    exact ⟨s, xs, ys, _, _, rfl, r1, t1, r2, t2⟩

/-- Where such a struct lies. -/
def LiesS (w : World) (k : IntKind) (ad : Addr) (x : ByteArray × List Int × List Int) : Prop :=
  w.cell? (ad.add 0) = some (.string x.1) ∧ (∃ v1, w.cell? (ad.add 1) = some v1 ∧ v1.oneCell' = true ∧ RepD (fun b => b < w.heap.size) w (.sl false 1 (x.2.1.map fun z => [.c (.int k z)])) v1) ∧ ∃ v2, w.cell? (ad.add 2) = some v2 ∧ v2.oneCell' = true ∧ RepD (fun b => b < w.heap.size) w (.sl false 1 (x.2.2.map fun z => [.c (.int k z)])) v2

theorem es_sii {w : World} {k : IntKind} {b : Nat} : ∀ (l : List (ByteArray × List Int × List Int)) (o : Nat), (∀ i (hi : i < l.length), LiesS w k ⟨b, o + i * 3, none⟩ l[i]) → RepEs (fun b => b < w.heap.size) w 3 b o (l.map fun x => [.c (.string x.1), .sl false 1 (x.2.1.map fun z => [.c (.int k z)]), .sl false 1 (x.2.2.map fun z => [.c (.int k z)])])
  | [], _, _ => trivial
  | x :: l, o, h => by
    obtain ⟨a0, ⟨v1, a1, a2, a3⟩, v2, b1, b2, b3⟩ := h 0 (by simp)
    simp only [Eng.add_plain, Nat.zero_mul, Nat.add_zero, List.getElem_cons_zero] at a0 a1 a3 b1 b3
    refine ⟨rfl, ⟨⟨_, a0, rfl, rfl⟩, ⟨v1, a1, a2, a3⟩, ⟨v2, b1, b2, b3⟩, trivial⟩, es_sii l (o + 3) fun i hi => ?_⟩
    have := h (i + 1) (by simpa using hi)
    rw [show o + 3 + i * 3 = o + (i + 1) * 3 by omega]
    simpa using this

/-- A parameter that is a slice of such structs. -/
theorem in_arrs {t te e : TypeId} {f0 f1 f2 : Field} {k : IntKind} {w : World} {r : Reach} {b0 : Nat} {v : Value} {d : DataW H} {ps : List MemPlace} (ht0 : P.underlying t = some (.slice te)) (ht : P.underlying te = some (.struct #[f0, f1, f2])) (o0 : f0.offset = 0) (o1 : f1.offset = 1) (o2 : f2.offset = 2)
    (h0 : P.underlying f0.type = some .string) (h1 : P.underlying f1.type = some (.slice e)) (h2 : P.underlying f2.type = some (.slice e)) (he : P.underlying e = some (.int k)) (hc : P.cellsOf e = 1) (c0 : P.cellsOf f0.type = 1) (c1 : P.cellsOf f1.type = 1) (c2 : P.cellsOf f2.type = 1) (hct : P.cellsOf te = 3)
    (hval : Value.okWide P w r b0 t v) (h : DataW.Trod enc P w 0 (fun _ => true) true t v d ps) :
    ∃ l : List (ByteArray × List Int × List Int), RepD (fun b => b < w.heap.size) w (.sl false 3 (l.map fun x => [.c (.string x.1), .sl false 1 (x.2.1.map fun z => [.c (.int k z)]), .sl false 1 (x.2.2.map fun z => [.c (.int k z)])])) v ∧ l.length ≤ maxLen := by
  obtain ⟨a0, len0, cap0, rfl⟩ := okWide_slice ht0 hval
  obtain ⟨fuel, hf⟩ := h
  rcases DataW.trod_slice ht0 hf with ⟨hcs, hx⟩ | ⟨a, len, cap, elems, rest, m, _, hcs, hx, hb, hl, hm, hlen, hel, hsp, hns⟩
  · have hv : (Value.slice a0 len0 cap0) = .slice none 0 0 := by simpa [Value.cells] using hcs
    rw [hv]
    exact ⟨[], ⟨none, 0, rfl, ⟨fun h => (by cases h), fun _ => rfl, Nat.le_refl _⟩, fun h0 => by simp at h0⟩, by simp⟩
  · have hv : (Value.slice a0 len0 cap0) = .slice (some a) len cap := by simpa [Value.cells] using hcs
    have one : ∀ i, i < len → ∃ x, LiesS w k (a.add (i * 3)) x := fun i hi => by
      have hy := hel i hi
      rw [List.getElem?_eq_getElem (by omega), Option.bind_eq_some_iff] at hy
      obtain ⟨cs, q1, q2⟩ := hy
      rw [hct] at q1
      obtain ⟨z1, z2, z3⟩ := World.cells?_some q1
      obtain ⟨s, xs, ys, v1, v2, rfl, r1, t1, r2, t2⟩ := in_siiC ht o0 o1 o2 h0 h1 h2 he hc c0 c1 c2 hct (by first | exact z1 | exact z2 | simpa using z1) q2
      exact ⟨(s, xs, ys), by simpa using z3 0 (by omega), ⟨v1, by simpa using z3 1 (by omega), t1, r1⟩, v2, by simpa using z3 2 (by omega), t2, r2⟩
    obtain ⟨l, r1, r2⟩ := pickRows len one
    rw [hv, ← r1]
    refine ⟨l, ⟨some a, cap, by rw [List.length_map], ⟨fun h => (by cases h), fun h => (by cases h), by rw [List.length_map, r1]; exact hl⟩, fun h00 => ?_⟩, by omega⟩
    rw [List.length_map] at h00
    have h01 := (r2 0 h00).1
    rw [Nat.zero_mul] at h01
    have hs : a.spot = none := spot_none (a := a) (by simpa [Addr.add] using h01)
    obtain ⟨b, o, sp⟩ := a
    obtain rfl : sp = none := hs
    refine ⟨b, o, rfl, ?_, es_sii l o fun i hi => ?_⟩
    · have := cell_lt h01
      simpa [Eng.add_plain] using this
    · have := r2 i hi
      rwa [Eng.add_plain] at this

/-- Where a slice of integers lies in a cell. -/
def LiesZ (w : World) (k : IntKind) (ad : Addr) (x : List Int) : Prop :=
  ∃ v1, w.cell? ad = some v1 ∧ v1.oneCell' = true ∧ RepD (fun b => b < w.heap.size) w (.sl false 1 (x.map fun z => [.c (.int k z)])) v1

theorem es_lists {w : World} {k : IntKind} {b : Nat} : ∀ (l : List (List Int)) (o : Nat), (∀ i (hi : i < l.length), LiesZ w k ⟨b, o + i, none⟩ l[i]) → RepEs (fun b => b < w.heap.size) w 1 b o (l.map fun x => [.sl false 1 (x.map fun z => [.c (.int k z)])])
  | [], _, _ => trivial
  | x :: l, o, h => by
    obtain ⟨v1, a1, a2, a3⟩ := h 0 (by simp)
    simp only [Nat.add_zero, List.getElem_cons_zero] at a1 a3
    refine ⟨rfl, ⟨⟨v1, a1, a2, a3⟩, trivial⟩, es_lists l (o + 1) fun i hi => ?_⟩
    have := h (i + 1) (by simpa using hi)
    rw [show o + 1 + i = o + (i + 1) by omega]
    simpa using this

/-- A slice of slices of integers. -/
theorem in_lists {t te e : TypeId} {k : IntKind} {w : World} {fuel : Nat} {cs : List Value} {x : DataW H × List MemPlace} (ht0 : P.underlying t = some (.slice te)) (ht : P.underlying te = some (.slice e)) (he : P.underlying e = some (.int k)) (hc : P.cellsOf e = 1) (hct : P.cellsOf te = 1)
    (hf : DataW.trod enc P w 0 (fun _ => true) true fuel t cs = some x) :
    ∃ (A : List (List Int)) (v : Value), cs = [v] ∧ RepD (fun b => b < w.heap.size) w (.sl false 1 (A.map fun x => [.sl false 1 (x.map fun z => [.c (.int k z)])])) v ∧ v.oneCell' = true ∧ A.length ≤ maxLen := by
  rcases DataW.trod_slice ht0 hf with ⟨hcs, hx⟩ | ⟨a, len, cap, elems, rest, m, _, hcs, hx, hb, hl, hm, hlen, hel, hsp, hns⟩
  · exact ⟨[], _, hcs, ⟨none, 0, rfl, ⟨fun h => (by cases h), fun _ => rfl, Nat.le_refl _⟩, fun h0 => by simp at h0⟩, rfl, by simp⟩
  · have one : ∀ i, i < len → ∃ x, LiesZ w k (a.add i) x := fun i hi => by
      have hy := hel i hi
      rw [List.getElem?_eq_getElem (by omega), Option.bind_eq_some_iff] at hy
      obtain ⟨cs, q1, q2⟩ := hy
      rw [hct] at q1
      obtain ⟨z1, z2, z3⟩ := World.cells?_some q1
      obtain ⟨zs, v, rfl, r1, t1, _⟩ := in_ints ht he hc q2
      exact ⟨zs, v, by simpa [Addr.add_add] using z3 0 (by omega), t1, r1⟩
    obtain ⟨l, r1, r2⟩ := pickRows len one
    refine ⟨l, _, hcs, ?_, rfl, by omega⟩
    rw [← r1]
    refine ⟨some a, cap, by rw [List.length_map], ⟨fun h => (by cases h), fun h => (by cases h), by rw [List.length_map, r1]; exact hl⟩, fun h00 => ?_⟩
    rw [List.length_map] at h00
    obtain ⟨v1, h01, _, _⟩ := r2 0 h00
    have hs : a.spot = none := spot_none (a := a) (by simpa [Addr.add] using h01)
    obtain ⟨b, o, sp⟩ := a
    obtain rfl : sp = none := hs
    refine ⟨b, o, rfl, ?_, es_lists l o fun i hi => ?_⟩
    · have := cell_lt h01
      simpa [Eng.add_plain] using this
    · have := r2 i hi
      rwa [Eng.add_plain] at this

/-- A struct of a slice of slices of integers and a slice of integers. -/
theorem in_sel {t te e : TypeId} {f0 f1 : Field} {k : IntKind} {w : World} {r : Reach} {b0 : Nat} {v : Value} {d : DataW H} {ps : List MemPlace} (ht : P.underlying t = some (.struct #[f0, f1])) (o0 : f0.offset = 0) (o1 : f1.offset = 1)
    (h0 : P.underlying f0.type = some (.slice te)) (h1 : P.underlying te = some (.slice e)) (h2 : P.underlying f1.type = some (.slice e)) (he : P.underlying e = some (.int k)) (hc : P.cellsOf e = 1) (hct : P.cellsOf te = 1) (c0 : P.cellsOf f0.type = 1) (c1 : P.cellsOf f1.type = 1) (hcs : P.cellsOf t = 2)
    (hval : Value.okWide P w r b0 t v) (h : DataW.Trod enc P w 0 (fun _ => true) true t v d ps) :
    ∃ (A : List (List Int)) (R : List Int), RepD (fun b => b < w.heap.size) w (.agg [.sl false 1 (A.map fun x => [.sl false 1 (x.map fun z => [.c (.int k z)])]), .sl false 1 (R.map fun z => [.c (.int k z)])]) v ∧ A.length ≤ maxLen ∧ R.length ≤ maxLen ∧ ∀ z ∈ R, (Lit.int k z).wf = true := by
  obtain ⟨cs, rfl, hs⟩ := okWide_struct ht hval
  obtain ⟨fuel, hf⟩ := h
  obtain ⟨xs, n, _, _, hl, hlen, hff⟩ := DataW.trod_struct ht hf
  have q0 := hff 0 f0 rfl
  have q1 := hff 1 f1 rfl
  rw [o0, c0] at q0
  rw [o1, c1] at q1
  match xs, hlen with
  | [y0, y1], _ =>
  obtain ⟨A, v0, e0, r0, t0, l0⟩ := in_lists h0 h1 he hc hct q0
  obtain ⟨R, v1, e1, r1, t1, l1, w1⟩ := in_ints h2 he hc q1
  refine ⟨A, R, ⟨cs, rfl, ?_, ?_⟩, l0, l1, w1⟩
  all_goals
    obtain ⟨l⟩ := cs
    rw [hcs] at hs
    simp only [Value.cells] at e0 e1
    match l, hs with
    | [a, b], _ =>
      simp at e0 e1
      subst e0 e1
      first
        | exact ⟨_, _, rfl, r0, _, _, rfl, r1, rfl⟩
        | (intro u hu; simp at hu; rcases hu with rfl | rfl <;> first | exact t0 | exact t1)
end

end Go.Proofs.YtdhpmkaggojgbaaDoor
