/- The law 'framewiselaw21.StructureApply': for every input the call returns true, and the input reads as it did. No condition. -/
import Derived.Test.YtbmmemglkjeogaaS41
import Derived.Test.YtbmmemglkjeogaaEngIn
namespace Go.Proofs.Ytbmmemglkjeogaa.structureApply
open Go.ChangeShapes Go.WideShapes Go.ChangeAt Go.RowKit Go.ChangeMaps
set_option linter.unusedVariables false

theorem own : ownKnob Try.prog.godebug = none := by kernel_rfl
theorem laid : laidOutB Try.prog = true := by kernel_rfl
theorem rows : ∀ t ∈ Try.f3.params.toList, Try.prog.readableRec t = true ∧ t < Try.prog.types.size := by
  rw [Try.params3]
  intro t ht
  have h : ([9, 24, 25] : List Nat).all (fun t => Try.prog.readableRec t && decide (t < Try.prog.types.size)) = true := by kernel_rfl
  have := List.all_eq_true.1 h t (by simpa using ht)
  simpa using this
theorem cells3 : Try.prog.cellsOf 3 = 1 := by kernel_rfl
theorem cells9 : Try.prog.cellsOf 9 = 1 := by kernel_rfl
theorem cells22 : Try.prog.cellsOf 22 = 1 := by kernel_rfl
theorem cellsA24 : Try.prog.cellsOf 24 = 2 := by kernel_rfl
theorem cellsA29 : Try.prog.cellsOf 29 = 3 := by kernel_rfl

set_option maxRecDepth 100000 in
theorem lifted (os : Os) (started : os.Started) (H : Type) (enc : TypeId × Value → H) :
    ReturnsInHanded {} Try.checked os 3 .any (Rows.structureApplySpec.pre6 enc Try.prog Try.f3 Rows.structureApplyRow.domain false) (Rows.structureApplySpec.post enc Try.prog Try.f3 false true false false) := by
  refine returnsInHanded_of_change (C := Try.checked) own started (by kernel_rfl) Try.func3
    (ChangeSpec.witness6 (enc := enc) (C := Try.checked) false ⟨#[], #[.string ⟨#[]⟩, .agg #[.slice none 0 0, .int .i64 0], .slice none 0 0], []⟩ 8 (by kernel_rfl) (by kernel_rfl) (by kernel_rfl) (by kernel_rfl)) ?_
  intro W base args ds gs before hval0 hW hcnd _
  have hval : ∀ (j : Nat) t v, Try.f3.params[j]? = some t → args[j]? = some v → Value.okWide Try.prog W .any base t v := hval0
  have hW' := hW
  obtain ⟨p, q, hA0, hV, rfl, hfz, hnd⟩ := hW
  have hA : DataW.TrodAll enc Try.prog W 0 (fun _ => true) true Try.f3.params.toList args.toList ds p := hA0
  have hA2 := hA
  rw [Try.params3] at hA2 hval
  obtain ⟨v0, vs0, d0, ds0, p0, q0, hargs, rfl, rfl, h0, r0⟩ := trodAll_cons hA2
  obtain ⟨v1, vs1, d1, ds1, p1, q1, rfl, rfl, rfl, h1, r1⟩ := trodAll_cons r0
  obtain ⟨v2, vs2, d2, ds2, p2, q2, rfl, rfl, rfl, h2, r2⟩ := trodAll_cons r1
  obtain ⟨rfl, rfl, rfl⟩ := trodAll_nil r2
  obtain rfl : args = #[v0, v1, v2] := by cases args; simp_all
  obtain ⟨rfl, rfl⟩ := trodVars_none hV
  obtain ⟨x0, rfl, rfl, rfl, wx0⟩ := open_string Try.underlying9 (hval 0 9 v0 rfl rfl) h0
  obtain ⟨zs1, n1, hr1, hl1, hw1, wn1⟩ := in_sn (k := .i64) (k2 := .i64) Try.underlying24 rfl rfl Try.underlying22 Try.underlying3 Try.underlying3 cells3 cells22 cells3 cellsA24 (hval 1 24 v1 rfl rfl) h1
  obtain ⟨l2, hr2, hl2⟩ := in_arrs (k := .i64) Try.underlying25 Try.underlying29 rfl rfl rfl Try.underlying9 Try.underlying22 Try.underlying22 Try.underlying3 cells3 cells9 cells22 cells22 cellsA29 (hval 2 25 v2 rfl rfl) h2
  clear hA0 hval0
  have hlt := fun x hx => hW'.lt x hx
  refine ((Go.Proofs.Ytbmmemglkjeogaa.S41.end_ W x0 wx0 zs1 n1 hr1 hl1 hw1 wn1 l2 hr2 hl2).mono fun e W' h => ?_)
  obtain ⟨he, hg⟩ := h
  subst he
  refine ⟨_, rfl, endsBelow (pv := []) hW' (fun _ _ _ => (trodAll_cons_mk (shut_bool Try.underlying4 _) trodAll_mk0)) (fun sp hsp => ?_) (fun _ _ => rfl) rfl hg (ok_one (by kernel_rfl) rfl (okWide_bool_mk Try.underlying4 _))⟩
  exact allStay laid hg rows hA (fun x hx => hlt x (by first | (simp at hx; done) | simpa using hx)) sp (fun x hx => hsp x (by first | (simp at hx; done) | simpa using hx))

theorem over : Rows.structureApplyRow.holds Try.pinned (OpenSpec.ofChange Rows.structureApplySpec) :=
  OpenClaim.holds_of_wide 3 Try.f3 rfl rfl rfl rfl rfl rfl rfl ⟨rfl, rfl, rfl, rfl, rfl⟩ rfl rfl rfl rfl rfl (by kernel_rfl) Try.func3 (by kernel_rfl)
    (of_decide_eq_true (by kernel_rfl)) (by unfold Func.isWrapper; first | (rw [if_pos (by decide +kernel)]; kernel_rfl) | (rw [if_neg (by decide +kernel)]; exact ⟨rfl, rfl⟩))
    (fun os started H enc _ => lifted os started H enc)

theorem proved : Rows.StructureApplySaid :=
  over
#print axioms proved
end Go.Proofs.Ytbmmemglkjeogaa.structureApply
