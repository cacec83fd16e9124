/- The law on Apply of the scalar primitives. -/
import Derived.Test.YtdhpmkaggojgbaaDoorE8
import Derived.Test.YtdhpmkaggojgbaaDoorEngAny
namespace Go.Proofs.YtdhpmkaggojgbaaDoor.E9
open Go Go.Proofs.YtdhpmkaggojgbaaDoor.Eng Go.Proofs.YtdhpmkaggojgbaaDoor Go.RowKit Go.Proofs.YtdhpmkaggojgbaaDoor.E0 Go.Proofs.YtdhpmkaggojgbaaDoor.E1 Go.Proofs.YtdhpmkaggojgbaaDoor.E3 Go.Proofs.YtdhpmkaggojgbaaDoor.E5 Go.Proofs.YtdhpmkaggojgbaaDoor.D17 Go.Proofs.YtdhpmkaggojgbaaDoor.E6 Go.Proofs.YtdhpmkaggojgbaaDoor.E7 Go.Proofs.YtdhpmkaggojgbaaDoor.E8
set_option linter.unusedSimpArgs false
set_option linter.unusedVariables false
set_option linter.unusedSectionVars false
set_option maxRecDepth 100000

theorem law_true (op : ByteArray) (zs : List Int) : law17_ElementApply op zs = some true := by
  obtain ⟨⟨v, b⟩, hp⟩ := pApply_some op zs
  obtain ⟨t, ht⟩ := types_some op
  unfold law17_ElementApply awakeO
  simp only [Option.bind_some, if_true, same, hp, ht, evalid_is, beq_self_eq_true]
  split
  · rfl
  · split
    · rfl
    · cases b with
      | false => rfl
      | true =>
        obtain ⟨ts, t', e, h1, h2⟩ := keep op zs v hp
        rw [ht] at e
        cases e
        rw [if_pos rfl, show (⟨#[105, 110, 116]⟩ : ByteArray) = cI from rfl, h1, if_pos rfl]
        split
        · rename_i hc
          rw [show (⟨#[98, 111, 111, 108]⟩ : ByteArray) = cB from rfl, h2 hc]
        · rfl
theorem zs_ {n : Nat} {a : List AV} (h : Fits Tryd.prog n 22 a) : ∃ l : List Int, a = [.sl false 1 (l.map E8.e_int)] := by
  obtain ⟨m, es, _, rfl, hl, h⟩ := fit_slice (c := 1) Tryd.underlying22 (by kernel_rfl) rfl h
  obtain ⟨l, rfl, h2⟩ := list_of (f := E8.e_int) fun a ha => by
    obtain ⟨s, rfl, _⟩ := fit_int Tryd.underlying3 (h a ha)
    exact ⟨s, rfl⟩
  exact ⟨l, rfl⟩
theorem end_ (W : World) (ht : ElemTable.Tab W) (x0 : ByteArray) (_ : x0.size ≤ maxLen) (n1 : Nat) {v1 : Value} (a1 : AV) (f1 : Fits Tryd.prog n1 22 [a1]) (h1 : RepD (fun b => b < W.heap.size) W a1 v1) :
    Calls Tryd.prog 3 #[.string x0, v1] W fun e w' => e = .returned (.bool true) ∧ Below W.heap.size W w' := by
  have hT := tabOk ht
  obtain ⟨zs, e⟩ := zs_ f1
  cases e
  exact law_of (law17_ElementApply_ok (law_true x0 zs)) (vs := [.string x0, v1]) ⟨_, _, rfl, rfl, _, _, rfl, h1, rfl⟩ hT

end Go.Proofs.YtdhpmkaggojgbaaDoor.E9
