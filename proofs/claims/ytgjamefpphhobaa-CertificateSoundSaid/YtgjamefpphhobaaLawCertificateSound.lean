/- The law 'framewiselaw07.CertificateSound': for every input the call returns true, and the input reads as it did. No condition. -/
import Derived.Test.YtgjamefpphhobaaN7Sound
import Derived.Test.YtgjamefpphhobaaEngAny
namespace Go.Proofs.Ytgjamefpphhobaa.certificateSound
open Go.ChangeShapes Go.WideShapes Go.ChangeAt Go.RowKit Go.ChangeMaps
set_option linter.unusedVariables false

theorem own : ownKnob Try.prog.godebug = none := by kernel_rfl
theorem laid : laidOutB Try.prog = true := by kernel_rfl
theorem rows : ∀ t ∈ Try.f6.params.toList, Try.prog.readableRec t = true ∧ t < Try.prog.types.size := by
  rw [Try.params6]
  intro t ht
  have h : ([22, 29, 37] : List Nat).all (fun t => Try.prog.readableRec t && decide (t < Try.prog.types.size)) = true := by kernel_rfl
  have := List.all_eq_true.1 h t (by simpa using ht)
  simpa using this
theorem isv22 : isVar Try.prog 22 = true := by kernel_rfl
theorem isv29 : isVar Try.prog 29 = true := by kernel_rfl
theorem isv37 : isVar Try.prog 37 = true := by kernel_rfl

set_option maxRecDepth 100000 in
theorem lifted (os : Os) (started : os.Started) (H : Type) (enc : TypeId × Value → H) :
    ReturnsInHanded {} Try.checked os 6 .any (Rows.certificateSoundSpec.pre6 enc Try.prog Try.f6 Rows.certificateSoundRow.domain false) (Rows.certificateSoundSpec.post enc Try.prog Try.f6 false true false false) := by
  refine returnsInHanded_of_change (C := Try.checked) own started (by kernel_rfl) Try.func6
    (ChangeSpec.witness6 (enc := enc) (C := Try.checked) false ⟨#[], #[.slice none 0 0, .agg #[.int .i64 0, .slice none 0 0, .int .i64 0, .slice none 0 0, .slice none 0 0], .slice none 0 0], []⟩ 8 (by kernel_rfl) (by kernel_rfl) (by kernel_rfl) (by kernel_rfl)) ?_
  intro W base args ds gs before hval0 hW hcnd _
  have hval : ∀ (j : Nat) t v, Try.f6.params[j]? = some t → args[j]? = some v → Value.okWide Try.prog W .any base t v := hval0
  have hW' := hW
  obtain ⟨p, q, hA0, hV, rfl, hfz, hnd⟩ := hW
  have hA : DataW.TrodAll enc Try.prog W 0 (fun _ => true) true Try.f6.params.toList args.toList ds p := hA0
  have hA2 := hA
  rw [Try.params6] at hA2 hval
  obtain ⟨v0, vs0, d0, ds0, p0, q0, hargs, rfl, rfl, h0, r0⟩ := trodAll_cons hA2
  obtain ⟨v1, vs1, d1, ds1, p1, q1, rfl, rfl, rfl, h1, r1⟩ := trodAll_cons r0
  obtain ⟨v2, vs2, d2, ds2, p2, q2, rfl, rfl, rfl, h2, r2⟩ := trodAll_cons r1
  obtain ⟨rfl, rfl, rfl⟩ := trodAll_nil r2
  obtain rfl : args = #[v0, v1, v2] := by cases args; simp_all
  obtain ⟨rfl, rfl⟩ := trodVars_none hV
  obtain ⟨n0, av0, hf0, hr0⟩ := in_slice laid isv22 Try.underlying22 (hval 0 22 v0 rfl rfl) h0
  obtain ⟨n1, av1, hf1, hr1⟩ := in_struct laid isv29 Try.underlying29 (hval 1 29 v1 rfl rfl) h1
  obtain ⟨n2, av2, hf2, hr2⟩ := in_slice laid isv37 Try.underlying37 (hval 2 37 v2 rfl rfl) h2
  clear hA0 hval0
  have hlt := fun x hx => hW'.lt x hx
  refine ((Go.Proofs.Ytgjamefpphhobaa.N7Sound.end_ W n0 av0 hf0 hr0 n1 av1 hf1 hr1 n2 av2 hf2 hr2).mono fun e W' h => ?_)
  obtain ⟨he, hg⟩ := h
  subst he
  refine ⟨_, rfl, endsBelow (pv := []) hW' (fun _ _ _ => (trodAll_cons_mk (shut_bool Try.underlying4 _) trodAll_mk0)) (fun sp hsp => ?_) (fun _ _ => rfl) rfl hg (ok_one (by kernel_rfl) rfl (okWide_bool_mk Try.underlying4 _))⟩
  exact allStay laid hg rows hA (fun x hx => hlt x (by first | (simp at hx; done) | simpa using hx)) sp (fun x hx => hsp x (by first | (simp at hx; done) | simpa using hx))

theorem over : Rows.certificateSoundRow.holds Try.pinned (OpenSpec.ofChange Rows.certificateSoundSpec) :=
  OpenClaim.holds_of_wide 6 Try.f6 rfl rfl rfl rfl rfl rfl rfl ⟨rfl, rfl, rfl, rfl, rfl⟩ rfl rfl rfl rfl rfl (by kernel_rfl) Try.func6 (by kernel_rfl)
    (of_decide_eq_true (by kernel_rfl)) (by unfold Func.isWrapper; first | (rw [if_pos (by decide +kernel)]; kernel_rfl) | (rw [if_neg (by decide +kernel)]; exact ⟨rfl, rfl⟩))
    (fun os started H enc _ => lifted os started H enc)

theorem proved : Rows.CertificateSoundSaid :=
  over
#print axioms proved
end Go.Proofs.Ytgjamefpphhobaa.certificateSound
