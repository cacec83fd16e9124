/- The law 'framewiselaw07.CertificateProves': for every input that holds at most 1048576 values and letters the call returns true, and the input reads as it did. -/
import Derived.Test.YtgjamefpphhobaaN7Proves
import Derived.Test.YtgjamefpphhobaaEngUp
import Derived.OpenShut
import Derived.JoinedCond
namespace Go.Proofs.Ytgjamefpphhobaa.certificateProves
open Go.ChangeShapes Go.WideShapes Go.ChangeAt Go.RowKit Go.ChangeMaps
set_option linter.unusedVariables false

theorem own : ownKnob Try.prog.godebug = none := by kernel_rfl
theorem laid : laidOutB Try.prog = true := by kernel_rfl
theorem rows : ∀ t ∈ Try.f5.params.toList, Try.prog.readableRec t = true ∧ t < Try.prog.types.size := by
  rw [Try.params5]
  intro t ht
  have h : ([44, 26, 29] : List Nat).all (fun t => Try.prog.readableRec t && decide (t < Try.prog.types.size)) = true := by kernel_rfl
  have := List.all_eq_true.1 h t (by simpa using ht)
  simpa using this
theorem isv26 : isVar Try.prog 26 = true := by kernel_rfl
theorem isv29 : isVar Try.prog 29 = true := by kernel_rfl
theorem isv44 : isVar Try.prog 44 = true := by kernel_rfl

set_option maxRecDepth 100000 in
theorem lifted (os : Os) (started : os.Started) (H : Type) (enc : TypeId × Value → H) (F : Stop.Interp) :
    ReturnsInHanded {} Try.checked os 5 .any ((Rows.OpenSpec.upto Rows.certificateProvesSpec).pre6 enc Try.prog Try.f5 Rows.certificateProvesUptoRow.domain false) (((Rows.OpenSpec.upto Rows.certificateProvesSpec).at F).post enc Try.prog Try.f5 false true false false) := by
  refine returnsInHanded_of_cond (C := Try.checked) (s := Rows.OpenSpec.upto Rows.certificateProvesSpec) (k := Rows.uptoSmall) rfl own started (by kernel_rfl) Try.func5
    (OpenSpec.witness (enc := enc) (C := Try.checked) (s := Rows.OpenSpec.upto Rows.certificateProvesSpec) (k := Rows.uptoSmall) rfl false ⟨#[], #[.slice none 0 0, .agg #[.int .i64 0, .slice none 0 0], .agg #[.int .i64 0, .slice none 0 0, .int .i64 0, .slice none 0 0, .slice none 0 0]], []⟩ 8 (by kernel_rfl) (by kernel_rfl) (by kernel_rfl)
      (x := ([.nil, .agg [.lit (.int .i64 0), .nil], .agg [.lit (.int .i64 0), .nil, .agg [.lit (.int .i64 0), .nil], .nil]], [], [])) (by kernel_rfl) rfl (by kernel_rfl)) ?_
  intro W base args ds gs before hval0 hW _ hk _
  have hval : ∀ (j : Nat) t v, Try.f5.params[j]? = some t → args[j]? = some v → Value.okWide Try.prog W .any base t v := hval0
  have hW' := hW
  obtain ⟨p, q, hA0, hV, rfl, hfz, hnd⟩ := hW
  have hA : DataW.TrodAll enc Try.prog W 0 (fun _ => true) true Try.f5.params.toList args.toList ds p := hA0
  have hA2 := hA
  rw [Try.params5] at hA2 hval
  obtain ⟨v0, vs0, d0, ds0, p0, q0, hargs, rfl, rfl, h0, r0⟩ := trodAll_cons hA2
  obtain ⟨v1, vs1, d1, ds1, p1, q1, rfl, rfl, rfl, h1, r1⟩ := trodAll_cons r0
  obtain ⟨v2, vs2, d2, ds2, p2, q2, rfl, rfl, rfl, h2, r2⟩ := trodAll_cons r1
  obtain ⟨rfl, rfl, rfl⟩ := trodAll_nil r2
  obtain rfl : args = #[v0, v1, v2] := by cases args; simp_all
  obtain ⟨rfl, rfl⟩ := trodVars_none hV
  have hB := bound_leU hk
  simp only [List.append_nil, Rows.uptoBulkAll] at hB
  obtain ⟨n0, av0, hf0, hr0⟩ := in_sliceU 1048576 laid isv44 Try.underlying44 (hval 0 44 v0 rfl rfl) h0 (by omega)
  obtain ⟨n1, av1, hf1, hr1⟩ := in_structU 1048576 laid isv26 Try.underlying26 (hval 1 26 v1 rfl rfl) h1 (by omega)
  obtain ⟨n2, av2, hf2, hr2⟩ := in_structU 1048576 laid isv29 Try.underlying29 (hval 2 29 v2 rfl rfl) h2 (by omega)
  clear hA0 hval0
  have hlt := fun x hx => hW'.lt x hx
  refine ((Go.Proofs.Ytgjamefpphhobaa.N7Proves.end_ W n0 av0 hf0 hr0 n1 av1 hf1 hr1 n2 av2 hf2 hr2).mono fun e W' h => ?_)
  obtain ⟨he, hg⟩ := h
  subst he
  refine ⟨_, rfl, endsBelow (pv := []) hW' (fun _ _ _ => (trodAll_cons_mk (shut_bool Try.underlying4 _) trodAll_mk0)) (fun sp hsp => ?_) (fun _ _ => rfl) rfl hg (ok_one (by kernel_rfl) rfl (okWide_bool_mk Try.underlying4 _))⟩
  exact allStay laid hg rows hA (fun x hx => hlt x (by first | (simp at hx; done) | simpa using hx)) sp (fun x hx => hsp x (by first | (simp at hx; done) | simpa using hx))

theorem over : Rows.certificateProvesUptoRow.holds Try.pinned (Rows.OpenSpec.upto Rows.certificateProvesSpec) :=
  OpenClaim.holds_of_cond 5 Try.f5 rfl rfl rfl rfl rfl rfl rfl ⟨rfl, rfl, rfl, rfl, rfl⟩ rfl rfl rfl rfl rfl (by kernel_rfl) Try.func5 (by kernel_rfl)
    (of_decide_eq_true (by kernel_rfl)) (by unfold Func.isWrapper; first | (rw [if_pos (by decide +kernel)]; kernel_rfl) | (rw [if_neg (by decide +kernel)]; exact ⟨rfl, rfl⟩))
    (fun os started H enc _ F => lifted os started H enc F)

theorem proved : Rows.CertificateProvesUptoSaid :=
  over
#print axioms proved
end Go.Proofs.Ytgjamefpphhobaa.certificateProves
