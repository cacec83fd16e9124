/- Structure: Apply, as a function. -/
import Derived.Test.YtbmmemglkjeogaaS11
namespace Go.Proofs.Ytbmmemglkjeogaa.S12
open Go Go.Proofs.Ytbmmemglkjeogaa.Eng Go.Proofs.Ytbmmemglkjeogaa Go.RowKit Go.Proofs.Ytbmmemglkjeogaa.A1 Go.Proofs.Ytbmmemglkjeogaa.A2 Go.Proofs.Ytbmmemglkjeogaa.A3 Go.Proofs.Ytbmmemglkjeogaa.A5 Go.Proofs.Ytbmmemglkjeogaa.S1 Go.Proofs.Ytbmmemglkjeogaa.S2 Go.Proofs.Ytbmmemglkjeogaa.S3 Go.Proofs.Ytbmmemglkjeogaa.S4 Go.Proofs.Ytbmmemglkjeogaa.S5 Go.Proofs.Ytbmmemglkjeogaa.S6 Go.Proofs.Ytbmmemglkjeogaa.S7 Go.Proofs.Ytbmmemglkjeogaa.S8 Go.Proofs.Ytbmmemglkjeogaa.S9 Go.Proofs.Ytbmmemglkjeogaa.S10 Go.Proofs.Ytbmmemglkjeogaa.S11
set_option linter.unusedSimpArgs false
set_option linter.unusedVariables false
set_option linter.unusedSectionVars false
set_option maxRecDepth 100000

theorem validE_same {e e' : ByteArray} (h : e.toList = e'.toList) (n : Int) : validE e n = validE e' n := by
  unfold validE isI isB
  rw [h]
theorem valid_zero {e : ByteArray} (h : (!isI e && !isB e) = false) : validE e 0 = true := by
  unfold validE
  cases h1 : isI e with
  | true => rfl
  | false =>
    cases h2 : isB e with
    | true => rfl
    | false => rw [h1, h2] at h; cases h

theorem res_all (isN : Bool) (e0 : ByteArray) : ∀ (es : List ByteArray) (k : Nat), resOk isN e0 es k = true → ∀ (i : Nat) t, es[i]? = some t → (isN && (((k + i : Nat) : Int) == 1)) = false → t.toList = e0.toList
  | [], _, _, _, _, h, _ => by simp at h
  | s :: es, k, h, 0, t, ht, hn => by
    rw [resOk, Bool.and_eq_true] at h
    simp at ht
    subst ht
    rw [Nat.add_zero] at hn
    have h1 := h.1
    rw [hn] at h1
    simpa using h1
  | s :: es, k, h, i + 1, t, ht, hn => by
    rw [resOk, Bool.and_eq_true] at h
    exact res_all isN e0 es (k + 1) h.2 i t (by simpa using ht) (by rw [show k + 1 + i = k + (i + 1) by omega]; exact hn)
theorem res_inv {e : ByteArray} {es : List ByteArray} {el : ByteArray} (h : resE e es = (el, true)) : (!isI el && !isB el) = false ∧ (es = [] → isI el = true) ∧ ∀ (i : Nat) t, es[i]? = some t → (isNm e = false ∨ i ≠ 1) → t.toList = el.toList := by
  unfold resE at h
  split at h
  · simp at h
  rename_i h1
  split at h
  · rename_i h2
    simp at h
    subst h
    refine ⟨by kernel_rfl, fun _ => by kernel_rfl, fun i t ht => ?_⟩
    have hb : (rksE e es.length).2 = true := by
      cases hb : (rksE e es.length).2 with
      | true => rfl
      | false => rw [hb] at h1; simp at h1
    have := rks_len hb
    have h3 : (rksE e es.length).1.length = 0 := by
      have : (((rksE e es.length).1.length : Nat) : Int) = 0 := by simpa using h2
      omega
    rw [List.eq_nil_of_length_eq_zero (by omega : es.length = 0)] at ht
    simp at ht
  · cases es with
    | nil => simp at h
    | cons e0 r =>
      simp only at h
      split at h
      · rename_i h2
        simp at h
        subst h
        have hall := res_all (isNm e) e0 (e0 :: r) 0 h2
        have hb : badT e0 = false := by
          cases hb : badT e0 with
          | false => rfl
          | true => simp [hb] at h1
        refine ⟨hb, (fun h => by cases h), fun i t ht hn => hall i t ht ?_⟩
        rcases hn with hn | hn
        · rw [hn, Bool.false_and]
        · rw [Nat.zero_add, show (((i : Nat) : Int) == 1) = false by simp; omega, Bool.and_false]
      · simp at h

theorem isNm_op {e : ByteArray} {o : Op13} (ho : opOf e = some o) : isNm e = ((ix o == 10) || (ix o == 11)) := by
  unfold isNm
  rw [show is_index e = (ix o == 10) from op_is ho .index, show is_update e = (ix o == 11) from op_is ho .update]

theorem dat_valid {l : List Ar} (hv : l.any badA = false) {k i r : Int} (h : Dat l k i r) {el : ByteArray} (ht : ∀ t, (l.map (·.1))[k.toNat]? = some t → t.toList = el.toList) : validE el r = true := by
  obtain ⟨_, _, a, ha, hr⟩ := h
  have hb : badA a = false := by simpa using List.any_eq_false.1 hv a (List.mem_of_getElem? ha)
  obtain ⟨_, _, h3⟩ := checkE_ok (good hb)
  have h4 := List.any_eq_false.1 h3 r (List.mem_of_getElem? hr)
  rw [← validE_same (ht a.1 (by rw [List.getElem?_map, ha]; rfl))]
  simpa using h4

theorem el_valid {e : ByteArray} {o : Op13} {zs : List Int} {num : Int} {l : List Ar} {out : List Int} {el : ByteArray} (ho : opOf e = some o) (h : Run o zs num l out) (hres : resE e (l.map (·.1)) = (el, true)) {x y : Nat} (hx : (x : Int) < rowsN out) (hy : (y : Int) < colsN out) : validE el (elF o (szV zs num) l x y) = true := by
  have hel := run_el h x y hx hy
  obtain ⟨h1, h2, h3⟩ := res_inv hres
  rw [isNm_op ho] at h3
  have hr := rd_ok h.rd
  have d0 : ∀ {i r : Int}, Dat l 0 i r → validE el r = true := fun hd => dat_valid h.val hd fun t ht => h3 0 t (by simpa using ht) (Or.inr (by omega))
  generalize elF o (szV zs num) l x y = r at *
  cases o
  case iota =>
    cases hel
    have hl : l = [] := by
      obtain ⟨_, g, _⟩ := h.ranks
      exact List.eq_nil_of_length_eq_zero (g rfl)
    have := h2 (by rw [hl]; rfl)
    unfold validE
    rw [this]
    simp
    omega
  case fill => exact d0 hel
  case take => exact d0 hel
  case drop => exact d0 hel
  case reverse => exact d0 hel.choose_spec.2
  case append =>
    obtain ⟨d, _, h5⟩ := hel
    split at h5
    · exact d0 h5
    · exact dat_valid h.val h5 fun t ht => h3 1 t (by simpa using ht) (Or.inl rfl)
  case transpose => exact d0 hel.choose_spec.2
  case diagonal => exact d0 hel.choose_spec.2
  case windows => exact d0 hel
  case chunk => exact d0 hel
  case index =>
    obtain ⟨t, d, _, _, h5⟩ := hel
    split at h5
    · exact d0 h5
    · rw [h5]; exact valid_zero h1
  case update =>
    obtain ⟨t, _, h5⟩ := hel
    split at h5
    · exact dat_valid h.val h5 fun t ht => h3 2 t (by simpa using ht) (Or.inr (by omega))
    · exact d0 h5
  case pack => exact dat_valid h.val hel fun t ht => h3 x t (by simpa using ht) (Or.inl rfl)

theorem mem_gather {out : List Int} {f : Int → Int → Int} {r : Int} (h : r ∈ gatherE out f) : ∃ x y : Nat, (x : Int) < rowsN out ∧ (y : Int) < colsN out ∧ r = f x y := by
  unfold gatherE pre at h
  obtain ⟨x, hx, h⟩ := List.mem_flatMap.1 h
  obtain ⟨y, hy, rfl⟩ := List.mem_map.1 h
  exact ⟨x, y, by have := List.mem_range.1 hx; omega, by have := List.mem_range.1 hy; omega, rfl⟩

theorem run_ok {e : ByteArray} {o : Op13} {zs : List Int} {num : Int} {l : List Ar} {out : List Int} {el : ByteArray} (ho : opOf e = some o) (h : Run o zs num l out) (hres : resE e (l.map (·.1)) = (el, true)) : checkE el out (gatherE out (elF o (szV zs num) l)) = 0 := by
  obtain ⟨g1, g2, g3, g4⟩ := rd_ok h.rd
  refine checkE_mk (res_inv hres).1 ?_ ?_
  · rw [gather_len g1 g4]
    have := sizeE_bound out
    exact Prod.ext (by simp only; omega) g4
  · refine List.any_eq_false.2 fun r hr => ?_
    obtain ⟨x, y, hx, hy, rfl⟩ := mem_gather hr
    rw [el_valid ho h hres hx hy]
    simp

abbrev okV (e : ByteArray) (el : ByteArray) (o : Op13) (zs : List Int) (num : Int) (l : List Ar) (out : List Int) : AV := .tup [arr el out (gatherE out (elF o (szV zs num) l)), B (isNm e && !insideE (dt l 1 0) (dd l 0)), I 0]

theorem apply_run {e : ByteArray} {o : Op13} {zs : List Int} {num : Int} {l : List Ar} {out : List Int} {el : ByteArray} (ho : opOf e = some o) (h : Run o zs num l out) (hl : l.length ≤ 1000000) (hs : ∀ a ∈ l, smallA a) (hres : resE e (l.map (·.1)) = (el, true)) :
    Meets Try.prog 11 [S e, ints zs, I num, arrs l] (okV e el o zs num l out) := by
  refine apply_ ho h.form hl hs (Or.inr (Or.inr ⟨el, h.val, hres, Or.inr ⟨out, szV zs num, elF o (szV zs num) l, el, out, gatherE out (elF o (szV zs num) l), 0, isNm e && !insideE (dt l 1 0) (dd l 0), h.rd, rfl, run_el h, ?_, ?_, rfl⟩⟩))
  · unfold ofE
    rw [if_pos (run_ok ho h hres)]
  · rw [isNm_op ho]
    by_cases hn : ((ix o == 10) || (ix o == 11)) = true
    · refine Or.inr ⟨hn, dt l 1 0, dd l 0, ?_, ?_, by rw [hn, Bool.true_and]⟩
      · cases o <;> first | (exact absurd hn (by decide)) | skip
        · obtain ⟨e, f, xs, t, rfl, _⟩ := h.onezero rfl rfl
          exact dat_of (a := (f, [], [t])) (k := 1) rfl (by omega) (by simp)
        · obtain ⟨e, f, g, xs, t, v, rfl, _⟩ := h.three rfl rfl
          exact dat_of (a := (f, [], [t])) (k := 1) rfl (by omega) (by simp)
      · cases o <;> first | (exact absurd hn (by decide)) | skip
        · obtain ⟨e, f, xs, t, rfl, _⟩ := h.onezero rfl rfl
          exact dim_of (a := (e, [(xs.length : Int)], xs)) rfl (by omega) (by simp)
        · obtain ⟨e, f, g, xs, t, v, rfl, _⟩ := h.three rfl rfl
          exact dim_of (a := (e, [(xs.length : Int)], xs)) rfl (by omega) (by simp)
    · have hn : ((ix o == 10) || (ix o == 11)) = false := by simpa using hn
      exact Or.inl ⟨hn, by rw [hn, Bool.false_and]⟩

/-- Apply for all arguments. -/
def apE (e : ByteArray) (zs : List Int) (num : Int) (l : List Ar) : Ar × Bool × Int :=
  match opOf e with
  | none => ((⟨#[]⟩, [], []), false, 7)
  | some o =>
    if formB o zs.length l.length num = false then ((⟨#[]⟩, [], []), false, 1)
    else if l.any badA then ((⟨#[]⟩, [], []), false, 1)
    else if (resE e (l.map (·.1))).2 = false then ((⟨#[]⟩, [], []), false, 12)
    else if (rdE o zs num (l.map (·.2.1))).2 ≠ 0 then ((⟨#[]⟩, [], []), false, (rdE o zs num (l.map (·.2.1))).2)
    else (((resE e (l.map (·.1))).1, (rdE o zs num (l.map (·.2.1))).1, gatherE (rdE o zs num (l.map (·.2.1))).1 (elF o (szV zs num) l)), isNm e && !insideE (dt l 1 0) (dd l 0), 0)
abbrev apV (x : Ar × Bool × Int) : AV := .tup [.agg [S x.1.1, ints x.1.2.1, ints x.1.2.2], B x.2.1, I x.2.2]
theorem apply_fn (e : ByteArray) (zs : List Int) (num : Int) (l : List Ar) (hl : l.length ≤ 1000000) (hs : ∀ a ∈ l, smallA a) : Meets Try.prog 11 [S e, ints zs, I num, arrs l] (apV (apE e zs num l)) := by
  unfold apE
  cases ho : opOf e with
  | none => exact apply_form (k := 7) (by unfold formE; rw [ho]) (by omega)
  | some o =>
    simp only
    split
    · rename_i h1
      exact apply_form (k := 1) (by rw [form_is ho, h1]; rfl) (by omega)
    rename_i h1
    have hform : formB o zs.length l.length num = true := by simpa using h1
    split
    · rename_i h2
      exact Meets.weak (apply_ ho hform hl hs (Or.inl ⟨h2, rfl⟩)) zeroT_imp
    rename_i h2
    have hv : l.any badA = false := by simpa using h2
    split
    · rename_i h3
      exact Meets.weak (apply_ ho hform hl hs (Or.inr (Or.inl ⟨hv, h3, rfl⟩))) zeroT_imp
    rename_i h3
    have hres : resE e (l.map (·.1)) = ((resE e (l.map (·.1))).1, true) := Prod.ext rfl (by simpa using h3)
    split
    · rename_i h4
      exact Meets.weak (apply_ ho hform hl hs (Or.inr (Or.inr ⟨_, hv, hres, Or.inl ⟨_, _, rfl, h4, rfl⟩⟩))) zeroT_imp
    · rename_i h4
      have hrd : rdE o zs num (l.map (·.2.1)) = ((rdE o zs num (l.map (·.2.1))).1, 0) := Prod.ext rfl (by simpa using h4)
      exact apply_run ho ⟨hform, hv, hrd⟩ hl hs hres
end Go.Proofs.Ytbmmemglkjeogaa.S12
