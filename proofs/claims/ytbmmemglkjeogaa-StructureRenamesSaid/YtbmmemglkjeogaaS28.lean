/- Structure: a struct of a slice of integers and an integer as a parameter; the end of the law of opposites. -/
import Derived.Test.YtbmmemglkjeogaaS27
import Derived.Test.YtbmmemglkjeogaaEngIn
namespace Go.Proofs.Ytbmmemglkjeogaa
set_option linter.unusedVariables false
set_option linter.unusedSectionVars false
open Go.RowKit Go.WideShapes Go.ChangeShapes Go.Proofs.Ytbmmemglkjeogaa.Eng
section
variable {H : Type} {enc : TypeId × Value → H} {P : Program}
theorem in_sn {t e : TypeId} {f0 f1 : Field} {k k2 : IntKind} {w : World} {r : Reach} {b0 : Nat} {v : Value} {d : DataW H} {ps : List MemPlace} (ht : P.underlying t = some (.struct #[f0, f1])) (o0 : f0.offset = 0) (o1 : f1.offset = 1)
    (h0 : P.underlying f0.type = some (.slice e)) (h1 : P.underlying f1.type = some (.int k2)) (he : P.underlying e = some (.int k)) (hc : P.cellsOf e = 1) (c0 : P.cellsOf f0.type = 1) (c1 : P.cellsOf f1.type = 1) (hcs : P.cellsOf t = 2)
    (hval : Value.okWide P w r b0 t v) (h : DataW.Trod enc P w 0 (fun _ => true) true t v d ps) :
    ∃ (A : List Int) (n : Int), RepD (fun b => b < w.heap.size) w (.agg [.sl false 1 (A.map fun z => [.c (.int k z)]), .c (.int k2 n)]) v ∧ A.length ≤ maxLen ∧ (∀ z ∈ A, (Lit.int k z).wf = true) ∧ (Lit.int k2 n).wf = true := by
  obtain ⟨cs, rfl, hs⟩ := okWide_struct ht hval
  obtain ⟨fuel, hf⟩ := h
  obtain ⟨xs, n, _, _, hl, hlen, hff⟩ := DataW.trod_struct ht hf
  have q0 := hff 0 f0 rfl
  have q1 := hff 1 f1 rfl
  rw [o0, c0] at q0
  rw [o1, c1] at q1
  match xs, hlen with
  | [y0, y1], _ =>
  obtain ⟨A, v0, e0, r0, t0, l0, w0⟩ := in_ints h0 he hc q0
  obtain ⟨s, e1, w1⟩ := in_int h1 q1
  refine ⟨A, s, ⟨cs, rfl, ?_, ?_⟩, l0, w0, w1⟩
  all_goals
    obtain ⟨l⟩ := cs
    rw [hcs] at hs
    simp only [Value.cells] at e0 e1
    match l, hs with
    | [a, b], _ =>
      simp at e0 e1
      subst e0 e1
      first
        | exact ⟨_, _, rfl, r0, _, _, rfl, rfl, rfl⟩
        | (intro u hu; simp at hu; rcases hu with rfl | rfl <;> first | exact t0 | rfl)
end
end Go.Proofs.Ytbmmemglkjeogaa
namespace Go.Proofs.Ytbmmemglkjeogaa.S28
open Go Go.Proofs.Ytbmmemglkjeogaa.Eng Go.Proofs.Ytbmmemglkjeogaa Go.RowKit Go.Proofs.Ytbmmemglkjeogaa.A1 Go.Proofs.Ytbmmemglkjeogaa.A2 Go.Proofs.Ytbmmemglkjeogaa.A3 Go.Proofs.Ytbmmemglkjeogaa.S4 Go.Proofs.Ytbmmemglkjeogaa.S27
theorem end_ (W : World) {v1 v2 : Value} (op : ByteArray) (_ : op.size ≤ maxLen) (zs : List Int) (num : Int) (h1 : RepD (fun b => b < W.heap.size) W (numV zs num) v1) (_ : zs.length ≤ maxLen) (_ : ∀ z ∈ zs, (Lit.int .i64 z).wf = true) (_ : (Lit.int .i64 num).wf = true) (l : List Ar) (h2 : RepD (fun b => b < W.heap.size) W (arrs l) v2) (hl : l.length ≤ maxLen) :
    Calls Try.prog 8 #[.string op, v1, v2] W fun e w' => e = .returned (.bool true) ∧ Below W.heap.size W w' :=
  S27.end_ W op rfl zs num h1 l h2 hl
end Go.Proofs.Ytbmmemglkjeogaa.S28
