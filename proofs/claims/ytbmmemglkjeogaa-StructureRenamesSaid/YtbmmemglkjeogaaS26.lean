/- Structure: results of opposites. -/
import Derived.Test.YtbmmemglkjeogaaS25
namespace Go.Proofs.Ytbmmemglkjeogaa.S26
open Go Go.Proofs.Ytbmmemglkjeogaa.Eng Go.Proofs.Ytbmmemglkjeogaa Go.RowKit Go.Proofs.Ytbmmemglkjeogaa.A1 Go.Proofs.Ytbmmemglkjeogaa.A2 Go.Proofs.Ytbmmemglkjeogaa.A3 Go.Proofs.Ytbmmemglkjeogaa.A4 Go.Proofs.Ytbmmemglkjeogaa.A5 Go.Proofs.Ytbmmemglkjeogaa.S1 Go.Proofs.Ytbmmemglkjeogaa.S2 Go.Proofs.Ytbmmemglkjeogaa.S3 Go.Proofs.Ytbmmemglkjeogaa.S4 Go.Proofs.Ytbmmemglkjeogaa.S5 Go.Proofs.Ytbmmemglkjeogaa.S6 Go.Proofs.Ytbmmemglkjeogaa.S7 Go.Proofs.Ytbmmemglkjeogaa.S8 Go.Proofs.Ytbmmemglkjeogaa.S9 Go.Proofs.Ytbmmemglkjeogaa.S10 Go.Proofs.Ytbmmemglkjeogaa.S11 Go.Proofs.Ytbmmemglkjeogaa.S12 Go.Proofs.Ytbmmemglkjeogaa.S13 Go.Proofs.Ytbmmemglkjeogaa.S14 Go.Proofs.Ytbmmemglkjeogaa.S15 Go.Proofs.Ytbmmemglkjeogaa.S18 Go.Proofs.Ytbmmemglkjeogaa.S19 Go.Proofs.Ytbmmemglkjeogaa.S20 Go.Proofs.Ytbmmemglkjeogaa.S25
set_option linter.unusedSimpArgs false
set_option linter.unusedVariables false
set_option linter.unusedSectionVars false
set_option maxRecDepth 100000

def oth (isN : Bool) : List Ar → Nat → List Ar
  | [], _ => []
  | a :: l, i => (if (isN && i == 1) = true then a else opA a) :: oth isN l (i + 1)
theorem oth_len (isN : Bool) : ∀ (l : List Ar) (i : Nat), (oth isN l i).length = l.length
  | [], _ => rfl
  | a :: l, i => by simp [oth, oth_len isN l (i + 1)]
theorem oth_fst (isN : Bool) : ∀ (l : List Ar) (i : Nat), (oth isN l i).map (·.1) = l.map (·.1)
  | [], _ => rfl
  | a :: l, i => by
    rw [oth, List.map_cons, List.map_cons, oth_fst isN l (i + 1)]
    congr 1
    split <;> rfl
theorem oth_dims (isN : Bool) : ∀ (l : List Ar) (i : Nat), (oth isN l i).map (·.2.1) = l.map (·.2.1)
  | [], _ => rfl
  | a :: l, i => by
    rw [oth, List.map_cons, List.map_cons, oth_dims isN l (i + 1)]
    congr 1
    split <;> rfl
theorem oth_get (isN : Bool) : ∀ (l : List Ar) (i k : Nat), (oth isN l i)[k]? = (l[k]?).map fun a => if (isN && (i + k) == 1) = true then a else opA a
  | [], _, _ => by simp [oth]
  | a :: l, i, 0 => by simp [oth]
  | a :: l, i, k + 1 => by
    rw [oth, List.getElem?_cons_succ, oth_get isN l (i + 1) k, List.getElem?_cons_succ, show i + 1 + k = i + (k + 1) by omega]

theorem int_valid {e : ByteArray} (h : isI e = true) (n : Int) : validE e n = validE intB n := validE_same (by
  have h1 : e.toList = ByteArray.toList ⟨#[105, 110, 116]⟩ := beq_iff_eq.1 h
  exact h1) n
theorem bad_op {a : Ar} (h : badA a = false) (hi : isI a.1 = true) : badA (opA a) = false := by
  obtain ⟨h1, h2, h3⟩ := checkE_ok (good h)
  unfold badA
  have : checkE (opA a).1 (opA a).2.1 (opA a).2.2 = 0 := by
    refine checkE_mk h1 (by simpa [opA] using h2) (any_no fun z hz => ?_)
    unfold opA at hz
    obtain ⟨y, _, rfl⟩ := List.mem_map.1 hz
    show validE a.1 (ng y) = true
    rw [int_valid hi]
    exact ng_valid y
  simp [this]
theorem bad_oth (isN : Bool) : ∀ (l : List Ar) (i : Nat), (∀ a ∈ l, badA a = false ∧ isI a.1 = true) → (oth isN l i).any badA = false
  | [], _, _ => rfl
  | a :: l, i, h => by
    rw [oth, List.any_cons, bad_oth isN l (i + 1) (fun b hb => h b (by simp [hb])), Bool.or_false]
    split
    · exact (h a (by simp)).1
    · exact bad_op (h a (by simp)).1 (h a (by simp)).2

theorem getD_ng (xs : List Int) (i : Nat) : (xs.map ng).getD i 0 = ng (xs.getD i 0) := by
  rw [List.getD_eq_getElem?_getD, List.getD_eq_getElem?_getD, List.getElem?_map]
  cases xs[i]? with
  | none => exact ng_zero.symm
  | some x => rfl
theorem dt_oth (isN : Bool) (l : List Ar) (k i : Int) : dt (oth isN l 0) k i = if (isN && k.toNat == 1) = true then dt l k i else ng (dt l k i) := by
  unfold dt
  rw [List.getD_eq_getElem?_getD (l := oth isN l 0), oth_get, Nat.zero_add, List.getD_eq_getElem?_getD (l := l)]
  cases l[k.toNat]? with
  | none =>
    simp only [Option.map_none, Option.getD_none]
    split
    · rfl
    · exact ng_zero.symm
  | some a =>
    simp only [Option.map_some, Option.getD_some]
    split
    · rfl
    · exact getD_ng _ _
theorem dd_oth (isN : Bool) (l : List Ar) (i : Int) : dd (oth isN l 0) i = dd l i := by
  unfold dd
  rw [List.getD_eq_getElem?_getD (l := oth isN l 0), oth_get, List.getD_eq_getElem?_getD (l := l)]
  cases l[0]? with
  | none => rfl
  | some a =>
    simp only [Option.map_some, Option.getD_some]
    split <;> rfl
theorem elF_oth {o : Op13} (h0 : ix o ≠ 0) (size : Int) (l : List Ar) (x y : Int) : elF o size (oth ((ix o == 10) || (ix o == 11)) l 0) x y = ng (elF o size l x y) := by
  have z0 : ∀ (b : Bool) (i : Int), dt (oth b l 0) 0 i = ng (dt l 0 i) := fun b i => by rw [dt_oth, if_neg (by simp)]
  have z2 : ∀ (b : Bool) (i : Int), dt (oth b l 0) 2 i = ng (dt l 2 i) := fun b i => by rw [dt_oth, if_neg (by simp)]
  have t1 : ∀ i : Int, dt (oth true l 0) 1 i = dt l 1 i := fun i => by rw [dt_oth, if_pos (by simp)]
  have f1 : ∀ k i : Int, dt (oth false l 0) k i = ng (dt l k i) := fun k i => by rw [dt_oth, if_neg (by simp)]
  cases o
  case iota => exact absurd rfl h0
  case append =>
    show (if x < dd (oth false l 0) 0 then dt (oth false l 0) 0 x else dt (oth false l 0) 1 (x - dd (oth false l 0) 0)) = ng (if x < dd l 0 then dt l 0 x else dt l 1 (x - dd l 0))
    rw [dd_oth, f1, f1]
    split <;> rfl
  case index =>
    show (if insideE (dt (oth true l 0) 1 0) (dd (oth true l 0) 0) = true then dt (oth true l 0) 0 (dt (oth true l 0) 1 0) else 0) = ng (if insideE (dt l 1 0) (dd l 0) = true then dt l 0 (dt l 1 0) else 0)
    rw [dd_oth, t1, z0]
    split
    · rfl
    · exact ng_zero.symm
  case update =>
    show (if x = dt (oth true l 0) 1 0 then dt (oth true l 0) 2 0 else dt (oth true l 0) 0 x) = ng (if x = dt l 1 0 then dt l 2 0 else dt l 0 x)
    rw [t1, z0, z2]
    split <;> rfl
  case reverse =>
    show dt (oth false l 0) 0 (dd (oth false l 0) 0 - 1 - x) = _
    rw [dd_oth, f1]
    rfl
  case transpose =>
    show dt (oth false l 0) 0 (y * dd (oth false l 0) 1 + x) = _
    rw [dd_oth, f1]
    rfl
  case diagonal =>
    show dt (oth false l 0) 0 (x * dd (oth false l 0) 0 + x) = _
    rw [dd_oth, f1]
    rfl
  all_goals exact f1 _ _
theorem gather_ng (out : List Int) (f : Int → Int → Int) : gatherE out (fun x y => ng (f x y)) = (gatherE out f).map ng := by
  unfold gatherE pre
  rw [List.map_flatMap]
  simp only [List.map_map]
  rfl

theorem apE_oth {e : ByteArray} (h0 : opOf e ≠ some .iota) (zs : List Int) (num : Int) (l : List Ar) (hl : ∀ a ∈ l, badA a = false ∧ isI a.1 = true) :
    apE e zs num (oth (isNm e) l 0) = (((apE e zs num l).1.1, (apE e zs num l).1.2.1, (apE e zs num l).1.2.2.map ng), (apE e zs num l).2.1, (apE e zs num l).2.2) := by
  have hb : l.any badA = false := List.any_eq_false.2 fun a ha => by simp [(hl a ha).1]
  unfold apE
  cases ho : opOf e with
  | none => rfl
  | some o =>
    have hi : ix o ≠ 0 := fun h => h0 (by rw [ho]; revert h; cases o <;> simp [ix])
    simp only [oth_len, oth_fst, oth_dims, bad_oth (isNm e) l 0 hl, hb]
    by_cases c1 : formB o zs.length l.length num = false
    · simp only [if_pos c1]
      rfl
    by_cases c3 : (resE e (l.map (·.1))).2 = false
    · simp only [if_neg c1, if_pos c3, Bool.false_eq_true, if_false]
      rfl
    by_cases c4 : (rdE o zs num (l.map (·.2.1))).2 ≠ 0
    · simp only [if_neg c1, if_neg c3, if_pos c4, Bool.false_eq_true, if_false]
      rfl
    simp only [if_neg c1, if_neg c3, if_neg c4, Bool.false_eq_true, if_false]
    rw [dd_oth]
    have hel : elF o (szV zs num) (oth (isNm e) l 0) = fun x y => ng (elF o (szV zs num) l x y) := by
      funext x y
      rw [isNm_op ho]
      exact elF_oth hi _ _ _ _
    rw [hel, gather_ng]
    cases hn : isNm e with
    | false => rfl
    | true =>
      rw [dt_oth, if_pos (by simp)]

theorem apE_valid {e : ByteArray} {zs : List Int} {num : Int} {l : List Ar} (h : (apE e zs num l).2.2 = 0) : checkE (apE e zs num l).1.1 (apE e zs num l).1.2.1 (apE e zs num l).1.2.2 = 0 ∧ ((∀ a ∈ l, isI a.1 = true) → isI (apE e zs num l).1.1 = true) := by
  unfold apE at h ⊢
  cases ho : opOf e with
  | none => rw [ho] at h; simp at h
  | some o =>
    rw [ho] at h
    simp only at h ⊢
    split at h
    · simp at h
    rename_i h1
    split at h
    · simp at h
    rename_i h2
    split at h
    · simp at h
    rename_i h3
    split at h
    · rename_i h4; exact absurd h h4
    rename_i h4
    rw [if_neg h1, if_neg h2, if_neg h3, if_neg h4]
    have hres : resE e (l.map (·.1)) = ((resE e (l.map (·.1))).1, true) := Prod.ext rfl (by simpa using h3)
    have hrd : rdE o zs num (l.map (·.2.1)) = ((rdE o zs num (l.map (·.2.1))).1, 0) := Prod.ext rfl (by simpa using h4)
    refine ⟨run_ok ho ⟨by simpa using h1, by simpa using h2, hrd⟩ hres, fun hi => ?_⟩
    obtain ⟨_, r2, r3⟩ := res_inv hres
    cases l with
    | nil => exact r2 rfl
    | cons a l =>
      have := r3 0 a.1 rfl (Or.inr (by omega))
      have ha := hi a (by simp)
      simp only
      unfold isI at ha ⊢
      rwa [← this]
end Go.Proofs.Ytbmmemglkjeogaa.S26
