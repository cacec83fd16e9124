/- What is valid, values, opposites, equality, sizes. -/
import Derived.Test.YtgjamefpphhobaaM7D
namespace Go.Proofs.Ytgjamefpphhobaa.M7E
open Go Go.Proofs.Ytgjamefpphhobaa.Eng Go.Proofs.Ytgjamefpphhobaa Go.RowKit Go.Proofs.Ytgjamefpphhobaa.LM Go.Proofs.Ytgjamefpphhobaa.PK Go.Proofs.Ytgjamefpphhobaa.D7P Go.Proofs.Ytgjamefpphhobaa.D7R Go.Proofs.Ytgjamefpphhobaa.M7A Go.Proofs.Ytgjamefpphhobaa.M7B Go.Proofs.Ytgjamefpphhobaa.M7C Go.Proofs.Ytgjamefpphhobaa.M7D
set_option linter.unusedSimpArgs false
set_option linter.unusedVariables false
set_option linter.unusedSectionVars false
set_option maxRecDepth 100000

theorem for_find {A : Type} {f : Nat → Unit → Option (St Unit Int)} {xs : List A} (hn : xs.length ≤ 9223372036854775807) (p : A → Bool) (hf : ∀ (k : Nat) (x : A), xs[k]? = some x → f k () = some (if p x = true then .rt (k : Int) else .nx ())) :
    (∃ (i : Nat) (x : A), xs[i]? = some x ∧ xs.find? p = some x ∧ forC xs.length () f = some (.inr (i : Int))) ∨ (xs.find? p = none ∧ forC xs.length () f = some (.inl ())) := by
  have key := forC_val (f := f) (n := xs.length) (s := ()) hn (fun k _ => some (match (xs.drop k).findIdx? p with | some i => .inr (((k + i : Nat) : Int)) | none => .inl ())) (fun _ _ => True) trivial (fun _ _ => by rw [List.drop_length]; rfl) (fun k _ hk _ => by
    have hx : xs[k]? = some xs[k] := List.getElem?_eq_getElem hk
    rw [hf k _ hx, bind_s, List.drop_eq_getElem_cons hk, List.findIdx?_cons]
    cases hp : p xs[k] with
    | true => simp [on, St.on]
    | false =>
      simp only [Bool.false_eq_true, if_false, on_nx]
      cases (List.drop (k + 1) xs).findIdx? p with
      | none => rfl
      | some i => simp only [Option.map_some]; congr 3; omega) (fun _ _ _ _ _ _ => trivial)
  rw [List.drop_zero] at key
  rw [key]
  cases hc : xs.findIdx? p with
  | none =>
    right
    refine ⟨?_, rfl⟩
    rw [List.findIdx?_eq_none_iff] at hc
    rw [List.find?_eq_none]
    intro x hx
    simp [hc x hx]
  | some i =>
    left
    rw [List.findIdx?_eq_some_iff_getElem] at hc
    obtain ⟨h1, h2, h3⟩ := hc
    refine ⟨i, xs[i], List.getElem?_eq_getElem h1, ?_, by simp⟩
    rw [List.find?_eq_some_iff_getElem]
    exact ⟨h2, i, h1, rfl, fun j hj => by simpa using h3 j hj⟩
theorem for_any {A : Type} {f : Nat → Unit → Option (St Unit Int)} {xs : List A} (hn : xs.length ≤ 9223372036854775807) (p : A → Bool) (hf : ∀ (k : Nat) (x : A), xs[k]? = some x → f k () = some (if p x = true then .rt (k : Int) else .nx ())) :
    ((forC xs.length () f).bind (Sum.elim (fun _ => some (-1 : Int)) some)).bind (fun y => some (decide ((0 : Int) ≤ y))) = some (xs.any p) := by
  rcases for_find hn p hf with ⟨i, x, h1, h2, h3⟩ | ⟨h2, h3⟩
  · rw [h3, bind_s, elim_r, bind_s, decide_eq_true (by omega)]
    congr 1
    symm
    rw [List.any_eq_true]
    exact ⟨x, List.mem_of_find?_eq_some h2, List.find?_some h2⟩
  · rw [h3, bind_s, elim_l, bind_s]
    congr 1
    symm
    rw [show decide ((0 : Int) ≤ -1) = false from rfl, List.any_eq_false]
    exact List.find?_eq_none.1 h2

/-! Facts that are valid. -/
abbrev vE (l : Int × List Tm) : Bool := validE l.1 l.2
def vF (fs : List Fc) : Bool := fs.all fun f => vE f.2
def nmF (fs : List Fc) : Prop := fs.length ≤ 1000000 ∧ ∀ f ∈ fs, names f.2.2
theorem vF_iff {fs : List Fc} : vF fs = true ↔ valids fs := by
  unfold vF valids
  rw [List.all_eq_true]
theorem names_v {l : Int × List Tm} (h : vE l = true) : names l.2 := by
  obtain ⟨_, h2, _, h4⟩ := valid_parts h
  exact ⟨by omega, fun t ht => by have := LM.name_size (h4 t ht).2; omega⟩
theorem nm_v {fs : List Fc} (hv : valids fs) (hl : fs.length ≤ 1000000) : nmF fs := ⟨hl, fun f hf => names_v (hv f hf)⟩
theorem p_valid {fs : List Fc} (h : nmF fs) : certificate_Valid fs = some (vF fs) := by
  have h1 := h.1
  unfold certificate_Valid slices_ContainsFunc_L_api_Fact__certificate_Valid_1 slices_IndexFunc_L_api_Fact__certificate_Valid_1
  rw [for_any (xs := fs) (by omega) (fun f => !vE f.2) (fun k x hx => by
    simp only [hx, bind_s]
    unfold certificate_Valid_1
    rw [l_valid x.2 (h.2 x (List.mem_of_getElem? hx)), bind_s, bind_s]
    simp only [vE]
    rcases Bool.eq_false_or_eq_true (validE x.2.1 x.2.2) with e | e <;> simp only [e] <;> rfl), bind_s]
  unfold vF
  rw [List.not_any_eq_all_not]
  simp only [Bool.not_not]
theorem r_validF {fs : List Fc} (h : nmF fs) : ref07_Valid fs = some (vF fs) := by
  have h1 := h.1
  unfold ref07_Valid
  rw [forC_all (xs := fs) (s := ()) (r := false) (by omega) (fun f => vE f.2) (fun k x hx => by
    simp only [hx, bind_s, r_valid x.2 (h.2 x (List.mem_of_getElem? hx))]
    simp only [vE]
    rcases Bool.eq_false_or_eq_true (validE x.2.1 x.2.2) with e | e <;> simp only [e] <;> rfl)]
  unfold vF
  cases fs.all fun f => vE f.2 <;> rfl

def okF (vs : List Tm) (f : Fc) : Bool := (evalE f.2.1 f.2.2 vs).2 == 0 && (decide (0 ≤ (evalE f.2.1 f.2.2 vs).1) && (!f.1 || (evalE f.2.1 f.2.2 vs).1 == 0))
/-! Opposites. -/
theorem mapG_aget (v : ByteArray) : ∀ m : List Tm, (mapG v m).getD 0 = aget v m
  | [] => rfl
  | p :: r => by
    simp only [mapG, aget]
    by_cases h : p.1 = v
    · rw [if_pos (eqB_iff.2 h), if_pos h]; rfl
    · rw [if_neg (fun e => h (eqB_iff.1 e)), if_neg h]; exact mapG_aget v r
theorem mapP_aput (v : ByteArray) (x : Int) : ∀ m : List Tm, mapP v x m = aput v x m
  | [] => rfl
  | p :: r => by
    simp only [mapP, aput]
    by_cases h : p.1 = v
    · rw [if_pos (eqB_iff.2 h), if_pos h]
    · rw [if_neg (fun e => h (eqB_iff.1 e)), if_neg h, mapP_aput v x r]
theorem addT_fold (k : Int) : ∀ (ts m : List Tm), ts.foldl (fun m t => aput t.1 (W (aget t.1 m + W (k * t.2))) m) m = addT k ts m
  | [], m => rfl
  | t :: r, m => addT_fold k r _
theorem keys_lin (m : List Tm) : mapKeys m = sortK m := by
  unfold mapKeys sortK
  rw [Go.Proofs.Ytgjamefpphhobaa.Eng.mergeSort_isort]
theorem l_out {R : Type} (m : List Tm) (hl : m.length ≤ 10000) : (forC (R := R) (((mapKeys m).length)) ([] : (List (ByteArray × Int))) fun k997 s996 =>
            ((mapKeys m)[k997]?).bind fun x1005 =>
            if (((mapG x1005 m).getD (0 : Int)) != (0 : Int)) then
              iffO (decide ((s996.length + 1) * 24 ≤ 140737488355328))
                (some (.nx (s996 ++ [(x1005, ((mapG x1005 m).getD (0 : Int)))])))
            else
              some (.nx s996)) = some (.inl (linT m)) := by
  have hK : (mapKeys m).length ≤ 10000 := by rw [keys_lin, sortK_len]; exact hl
  obtain ⟨o, h1, h2⟩ := forC_inv (n := (mapKeys m).length) (s := ([] : List Tm)) (R := R) (f := fun (k997 : Nat) (s996 : List Tm) =>
            ((mapKeys m)[k997]?).bind fun x1005 =>
            if (((mapG x1005 m).getD (0 : Int)) != (0 : Int)) then
              iffO (decide ((s996.length + 1) * 24 ≤ 140737488355328))
                (some (.nx (s996 ++ [(x1005, ((mapG x1005 m).getD (0 : Int)))])))
            else
              some (.nx s996)) (by omega) (fun k s => s = outT m k) rfl (by
      rintro k o hk rfl
      obtain ⟨v, hv, _⟩ := drop_some hk
      have hv' : (sortK m)[k]? = some v := by rw [← keys_lin]; exact hv
      have hs := out_step hv'
      have hol : (outT m k).length ≤ 10000 := Nat.le_trans (List.length_filterMap_le ..) (by rw [List.length_take]; omega)
      simp only [hv, bind_s, mapG_aget]
      by_cases h0 : aget v m = 0
      · rw [if_neg (by simp [h0])]
        refine ⟨_, rfl, ?_⟩
        rw [hs, pickT, if_pos h0]; simp
      · rw [if_pos (by simpa using h0), iffO_d (by omega)]
        refine ⟨_, rfl, ?_⟩
        rw [hs, pickT, if_neg h0]; simp)
  rw [h1, h2, keys_lin, sortK_len, out_all]
theorem l_add {R : Type} (k : Int) (ts m : List Tm) (hl : ts.length ≤ 10000) : (forC (R := R) (ts.length) (m : (List (ByteArray × Int))) fun k966 s965 =>
        (ts[k966]?).bind fun x974 =>
        some (.nx (mapP x974.1 (IntKind.i64.wrap (((mapG x974.1 s965).getD (0 : Int)) + (IntKind.i64.wrap (k * x974.2)))) s965))) = some (.inl (addT k ts m)) := by
  rw [forC_fold (by omega) (fun m t => aput t.1 (W (aget t.1 m + W (k * t.2))) m) (fun _ => True) trivial (fun i m t ht _ => by simp only [ht, bind_s, mapG_aget, mapP_aput]) (fun _ _ _ _ => trivial), addT_fold]
theorem l_combine {a b : Int × List Tm} (k : Int) (ha : names a.2) (hb : names b.2) : linear_combine a b k = some (combineE a b k) := by
  obtain ⟨c1, t1⟩ := a
  obtain ⟨c2, t2⟩ := b
  unfold linear_combine combineE
  rw [l_valid _ ha, bind_s]
  simp only
  cases v1 : validE c1 t1 with
  | false => rfl
  | true =>
    rw [if_pos rfl, l_valid _ hb, bind_s]
    simp only
    cases v2 : validE c2 t2 with
    | false => rfl
    | true =>
      rw [if_pos rfl]
      obtain ⟨_, p2, _, p4⟩ := valid_parts v1
      obtain ⟨_, q2, _, q4⟩ := valid_parts v2
      simp only [l_add 1 t1 [] (by omega), l_add k t2 _ (by omega : t2.length ≤ 10000), bind_s, elim_l]
      have hsm : small (addT k t2 (addT 1 t1 [])) := by
        refine addT_small k (fun t ht => by have := LM.name_size (q4 t ht).2; omega) (addT_mem (P := fun v => v.size ≤ 1000000) 1 t1 (fun t ht => by have := LM.name_size (p4 t ht).2; omega) (by simp)) ?_
        have := addT_len 1 t1 []
        simp only [List.length_nil] at this
        omega
      have hlen : (addT k t2 (addT 1 t1 [])).length ≤ 100 := by
        have := addT_len 1 t1 []
        have := addT_len k t2 (addT 1 t1 [])
        simp only [List.length_nil] at *
        omega
      generalize addT k t2 (addT 1 t1 []) = m at hsm hlen ⊢
      rw [iffO_t (show mapOk m = true from ?_), l_out m (by omega), bind_s, elim_l]
      · have hn : names (linT m) := by
          refine ⟨?_, fun t ht => ?_⟩
          · have : (linT m).length ≤ m.length := by rw [← sortK_len m]; exact List.length_filterMap_le ..
            omega
          · obtain ⟨v, hv, hp⟩ := List.mem_filterMap.1 ht
            split at hp
            · cases hp
            · cases hp
              obtain ⟨x, hx⟩ := sortK_mem hv
              have := hsm.2 (v, x) hx
              exact this
        rw [l_valid _ hn, bind_s]
        show _ = some (linearE _ _)
        unfold linearE
        simp only [addC]
        rcases Bool.eq_false_or_eq_true (validE (W (W (0 + W (1 * c1)) + W (k * c2))) (linT m)) with e | e <;> simp only [e] <;> rfl
      · unfold mapOk
        simp only [Bool.and_eq_true, List.all_eq_true, decide_eq_true_eq]
        exact ⟨fun p hp => by have := hsm.2 p hp; omega, by omega⟩

end Go.Proofs.Ytgjamefpphhobaa.M7E
