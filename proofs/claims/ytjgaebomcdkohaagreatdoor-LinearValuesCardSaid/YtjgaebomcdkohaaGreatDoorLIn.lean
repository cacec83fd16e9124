/- What comes in as a linear expression. -/
import Derived.Test.YtjgaebomcdkohaaGreatDoorEngIn
namespace Go.Proofs.YtjgaebomcdkohaaGreatDoor.LIn
set_option linter.unusedVariables false
set_option linter.unusedSectionVars false
open Go Go.RowKit Go.WideShapes Go.ChangeShapes Go.Proofs.YtjgaebomcdkohaaGreatDoor Go.Proofs.YtjgaebomcdkohaaGreatDoor.Eng

section
variable {H : Type} {enc : TypeId × Value → H} {P : Program}
/-- Where a string and an integer lie. -/
def LiesC (w : World) (k : IntKind) (ad : Addr) (x : ByteArray × Int) : Prop := w.cell? (ad.add 0) = some (.string x.1) ∧ w.cell? (ad.add 1) = some (.int k x.2)
theorem es_coefs {ok : Nat → Prop} {w : World} {k : IntKind} {b : Nat} : ∀ (l : List (ByteArray × Int)) (o : Nat), (∀ i (hi : i < l.length), LiesC w k ⟨b, o + i * 2, none⟩ l[i]) → RepEs ok w 2 b o (l.map fun x => [.c (.string x.1), .c (.int k x.2)])
  | [], _, _ => trivial
  | x :: l, o, h => by
    obtain ⟨a0, a1⟩ := h 0 (by simp)
    simp only [Eng.add_plain, Nat.zero_mul, Nat.add_zero, List.getElem_cons_zero] at a0 a1
    refine ⟨rfl, ⟨⟨_, a0, rfl, rfl⟩, ⟨_, a1, rfl, rfl⟩, trivial⟩, es_coefs l (o + 2) fun i hi => ?_⟩
    have := h (i + 1) (by simpa using hi)
    rw [show o + 2 + i * 2 = o + (i + 1) * 2 by omega]
    simpa using this
/-- A slice of structs of a string and an integer. -/
theorem in_coefs {t te : TypeId} {f0 f1 : Field} {k : IntKind} {w : World} {fuel : Nat} {cs : List Value} {x : DataW H × List MemPlace} (ht0 : P.underlying t = some (.slice te)) (ht : P.underlying te = some (.struct #[f0, f1])) (o0 : f0.offset = 0) (o1 : f1.offset = 1)
    (h0 : P.underlying f0.type = some .string) (h1 : P.underlying f1.type = some (.int k)) (c0 : P.cellsOf f0.type = 1) (c1 : P.cellsOf f1.type = 1) (hct : P.cellsOf te = 2)
    (hf : DataW.trod enc P w 0 (fun _ => true) true fuel t cs = some x) :
    ∃ (l : List (ByteArray × Int)) (v : Value), cs = [v] ∧ RepD (fun b => b < w.heap.size) w (.sl false 2 (l.map fun x => [.c (.string x.1), .c (.int k x.2)])) v ∧ v.oneCell' = true ∧ l.length ≤ maxLen := by
  rcases DataW.trod_slice ht0 hf with ⟨hcs, hx⟩ | ⟨a, len, cap, elems, rest, m, _, hcs, hx, hb, hl, hm, hlen, hel, hsp, hns⟩
  · exact ⟨[], _, hcs, ⟨none, 0, rfl, ⟨fun h => (by cases h), fun _ => rfl, Nat.le_refl _⟩, fun h0 => by simp at h0⟩, rfl, by simp⟩
  · have one : ∀ i, i < len → ∃ x, LiesC w k (a.add (i * 2)) x := fun i hi => by
      have hy := hel i hi
      rw [List.getElem?_eq_getElem (by omega), Option.bind_eq_some_iff] at hy
      obtain ⟨cs, q1, q2⟩ := hy
      rw [hct] at q1
      obtain ⟨z1, z2, z3⟩ := World.cells?_some q1
      obtain ⟨xs, n, _, _, hl2, hlen2, hff⟩ := DataW.trod_struct ht q2
      have p0 := hff 0 f0 rfl
      have p1 := hff 1 f1 rfl
      rw [o0, c0] at p0
      rw [o1, c1] at p1
      match xs, hlen2 with
      | [y0, y1], _ =>
      obtain ⟨s, e0, _⟩ := in_str h0 p0
      obtain ⟨i0, e1, _⟩ := in_int h1 p1
      have hcs : cs.length = 2 := by first | exact z1 | exact z2 | simpa using z1
      match cs, hcs with
      | [u0, u1], _ =>
        simp at e0 e1
        subst e0 e1
        exact ⟨(s, i0), by simpa using z3 0 (by omega), by simpa using z3 1 (by omega)⟩
    obtain ⟨l, r1, r2⟩ := pickRows len one
    refine ⟨l, _, hcs, ?_, rfl, by omega⟩
    rw [← r1]
    refine ⟨some a, cap, by rw [List.length_map], ⟨fun h => (by cases h), fun h => (by cases h), by rw [List.length_map, r1]; exact hl⟩, fun h00 => ?_⟩
    rw [List.length_map] at h00
    have h01 := (r2 0 h00).1
    rw [Nat.zero_mul] at h01
    have hs : a.spot = none := spot_none (a := a) (by simpa [Addr.add] using h01)
    obtain ⟨b, o, sp⟩ := a
    obtain rfl : sp = none := hs
    refine ⟨b, o, rfl, ?_, es_coefs l o fun i hi => ?_⟩
    · have := cell_lt h01
      simpa [Eng.add_plain] using this
    · have := r2 i hi
      rwa [Eng.add_plain] at this
/-- A linear expression. -/
theorem in_lin {t te : TypeId} {f0 f1 g0 g1 : Field} {k : IntKind} {w : World} {r : Reach} {b0 : Nat} {v : Value} {d : DataW H} {ps : List MemPlace} (ht : P.underlying t = some (.struct #[f0, f1])) (o0 : f0.offset = 0) (o1 : f1.offset = 1)
    (h0 : P.underlying f0.type = some (.int k)) (h1 : P.underlying f1.type = some (.slice te)) (h2 : P.underlying te = some (.struct #[g0, g1])) (p0 : g0.offset = 0) (p1 : g1.offset = 1) (h3 : P.underlying g0.type = some .string) (h4 : P.underlying g1.type = some (.int k))
    (c0 : P.cellsOf f0.type = 1) (c1 : P.cellsOf f1.type = 1) (d0 : P.cellsOf g0.type = 1) (d1 : P.cellsOf g1.type = 1) (hct : P.cellsOf te = 2) (hcs : P.cellsOf t = 2)
    (hval : Value.okWide P w r b0 t v) (h : DataW.Trod enc P w 0 (fun _ => true) true t v d ps) :
    ∃ (n : Int) (l : List (ByteArray × Int)), RepD (fun b => b < w.heap.size) w (.agg [.c (.int k n), .sl false 2 (l.map fun x => [.c (.string x.1), .c (.int k x.2)])]) v ∧ (Lit.int k n).wf = true ∧ l.length ≤ maxLen := by
  obtain ⟨cs, rfl, hs⟩ := okWide_struct ht hval
  obtain ⟨fuel, hf⟩ := h
  obtain ⟨xs, n, _, _, hl, hlen, hff⟩ := DataW.trod_struct ht hf
  have q0 := hff 0 f0 rfl
  have q1 := hff 1 f1 rfl
  rw [o0, c0] at q0
  rw [o1, c1] at q1
  match xs, hlen with
  | [y0, y1], _ =>
  obtain ⟨i0, e0, w0⟩ := in_int h0 q0
  obtain ⟨l, v1, e1, r1, t1, l1⟩ := in_coefs h1 h2 p0 p1 h3 h4 d0 d1 hct q1
  refine ⟨i0, l, ⟨cs, rfl, ?_, ?_⟩, w0, l1⟩
  all_goals
    obtain ⟨l⟩ := cs
    rw [hcs] at hs
    simp only [Value.cells] at e0 e1
    match l, hs with
    | [a, b], _ =>
      simp at e0 e1
      subst e0 e1
      first
        | exact ⟨_, _, rfl, rfl, _, _, rfl, r1, rfl⟩
        | (intro u hu; simp at hu; rcases hu with rfl | rfl <;> first | rfl | exact t1)
end

end Go.Proofs.YtjgaebomcdkohaaGreatDoor.LIn
