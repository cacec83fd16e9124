/- Certificates: sizes, and what they refute. -/
import Derived.Test.YtgjamefpphhobaaM7E
namespace Go.Proofs.Ytgjamefpphhobaa.M7F
open Go Go.Proofs.Ytgjamefpphhobaa.Eng Go.Proofs.Ytgjamefpphhobaa Go.RowKit Go.Proofs.Ytgjamefpphhobaa.LM Go.Proofs.Ytgjamefpphhobaa.PK Go.Proofs.Ytgjamefpphhobaa.D7P Go.Proofs.Ytgjamefpphhobaa.D7R Go.Proofs.Ytgjamefpphhobaa.M7A Go.Proofs.Ytgjamefpphhobaa.M7B Go.Proofs.Ytgjamefpphhobaa.M7C Go.Proofs.Ytgjamefpphhobaa.M7D Go.Proofs.Ytgjamefpphhobaa.M7E
set_option linter.unusedSimpArgs false
set_option linter.unusedVariables false
set_option linter.unusedSectionVars false
set_option maxRecDepth 100000

/-! Opposites. -/
def negE (l : Int × List Tm) : (Int × List Tm) × Int := addR (-1, []) l (-1)
theorem nil_names : names ([] : List Tm) := ⟨by simp, by simp⟩
theorem v1 : validE (-1) [] = true := rfl
theorem p_neg {l : Int × List Tm} (h : names l.2) : certificate_Negate l = some (negE l) := by
  unfold certificate_Negate linear_Of linear_Sub negE
  rw [l_valid l h, bind_s]
  cases hv : validE l.1 l.2 with
  | false => unfold addR; rw [if_neg (by simp), if_neg (by simp [hv])]
  | true => rw [if_pos rfl, bind_s, l_combine _ nil_names h, bind_s, bind_s, addR_is]
theorem times_names {l : Int × List Tm} (hv : validE l.1 l.2 = true) (k : Int) : names (timesE (-1, []) l k).2 := by
  obtain ⟨_, p2, _, p4⟩ := valid_parts hv
  refine ⟨?_, times_all (P := fun v => v.size ≤ 1000000) k l.2 (by simp) fun u hu => by have := LM.name_size (p4 u hu).2; omega⟩
  have := timesT_len k l.2 []
  simp only [List.length_nil] at this
  show (timesT k l.2 []).length ≤ _
  omega
theorem r_neg {l : Int × List Tm} (h : names l.2) : ref07_Negate l = some (negE l) := by
  unfold ref07_Negate ref04_Of negE
  rw [r_valid l h, bind_s]
  cases hv : validE l.1 l.2 with
  | false => unfold addR; rw [if_neg (by simp), if_neg (by simp [hv])]
  | true =>
    obtain ⟨_, p2, _, p4⟩ := valid_parts hv
    rw [if_pos rfl, bind_s, r_times _ _ _ (by trivial) (by simp) (by omega), bind_s, r_valid _ (times_names hv _), bind_s, addR_v v1 hv]
    unfold limE
    rcases Bool.eq_false_or_eq_true (validE (timesE (-1, []) l (-1)).1 (timesE (-1, []) l (-1)).2) with e | e <;> simp only [e] <;> rfl
theorem neg_valid {l : Int × List Tm} (h : (negE l).2 = 0) : vE l = true ∧ vE (negE l).1 = true ∧ (negE l).1 = timesE (-1, []) l (-1) := by
  unfold negE addR at h ⊢
  split at h
  · rename_i hv
    rw [if_pos hv]
    have h2 := lim_valid h
    refine ⟨hv.2, ?_, ?_⟩
    · rw [lim_yes h2]; exact h2
    · rw [lim_yes h2]
  · cases h

/-! Equality. -/
def cl : List Tm → List Tm → Option Int
  | s :: r, t :: r' => if lessB s.1 t.1 = true then some (-1) else if eqB s.1 t.1 = true then (if s.2 < t.2 then some (-1) else if s.2 = t.2 then cl r r' else some 1) else some 1
  | _, _ => none
theorem cl_some : ∀ {a b : List Tm} {r : Int}, cl a b = some r → r ≠ 0 ∧ a ≠ b
  | [], [], r, h => by cases h
  | [], _ :: _, r, h => by cases h
  | _ :: _, [], r, h => by cases h
  | s :: a, t :: b, r, h => by
    rw [cl] at h
    split at h
    · rename_i hl
      cases h
      refine ⟨by omega, fun e => ?_⟩
      obtain ⟨rfl, _⟩ := List.cons.inj e
      exact ltB_irr _ ((less_iff _ _).1 hl)
    · split at h
      · split at h
        · rename_i h2
          cases h
          refine ⟨by omega, fun e => ?_⟩
          obtain ⟨rfl, _⟩ := List.cons.inj e
          omega
        · split at h
          · obtain ⟨h1, h2⟩ := cl_some h
            exact ⟨h1, fun e => h2 (List.cons.inj e).2⟩
          · rename_i h3
            cases h
            refine ⟨by omega, fun e => ?_⟩
            obtain ⟨rfl, _⟩ := List.cons.inj e
            exact h3 rfl
      · rename_i h2
        cases h
        refine ⟨by omega, fun e => ?_⟩
        obtain ⟨rfl, _⟩ := List.cons.inj e
        exact h2 (eqB_self _)
theorem cl_none : ∀ {a b : List Tm}, cl a b = none → a.length = b.length → a = b
  | [], [], _, _ => rfl
  | [], _ :: _, _, hl => by simp at hl
  | _ :: _, [], _, hl => by simp at hl
  | s :: a, t :: b, h, hl => by
    rw [cl] at h
    split at h
    · cases h
    · split at h
      · rename_i h1
        split at h
        · cases h
        · split at h
          · rename_i h2
            rw [cl_none h (by simpa using hl), show s = t from Prod.ext (eqB_iff.1 h1) h2]
          · cases h
      · cases h
theorem r_equal (a b : Int × List Tm) (ha : a.2.length ≤ 1000000) (hb : b.2.length ≤ 1000000) : ref04_Equal a b = some (decide (a = b)) := by
  obtain ⟨c, x⟩ := a
  obtain ⟨d, y⟩ := b
  simp only at ha hb
  unfold ref04_Equal ref04_Compare
  simp only
  rw [whlC_val (fun i => some (match cl (x.drop i.toNat) (y.drop i.toNat) with | none => .inl ((min x.length y.length : Nat) : Int) | some r => .inr r)) (fun i => 0 ≤ i ∧ i ≤ (min x.length y.length : Nat)) (fun i => (min x.length y.length) - i.toNat) ⟨by omega, by omega⟩ (by omega) ?_ ?_]
  · simp only [Int.toNat_zero, List.drop_zero, bind_s]
    cases hc : cl x y with
    | some r =>
      obtain ⟨h1, h2⟩ := cl_some hc
      simp only [elim_r, bind_s]
      congr 1
      rw [show (r == (0 : Int)) = false by simpa using h1]
      symm
      rw [decide_eq_false_iff_not]
      intro e
      exact h2 (Prod.mk.inj e).2
    | none =>
      simp only [elim_l]
      by_cases c1 : x.length < y.length
      · rw [if_pos (decide_eq_true (by omega)), bind_s]
        congr 1
        symm
        rw [show ((-1 : Int) == 0) = false from rfl, decide_eq_false_iff_not]
        intro e
        rw [(Prod.mk.inj e).2] at c1
        omega
      · rw [if_neg (by simpa using by omega)]
        by_cases c2 : x.length = y.length
        · obtain rfl := cl_none hc c2
          rw [if_pos (by simp)]
          by_cases c3 : c < d
          · rw [if_pos (decide_eq_true c3), bind_s]
            congr 1
            symm
            rw [show ((-1 : Int) == 0) = false from rfl, decide_eq_false_iff_not]
            intro e
            have := (Prod.mk.inj e).1
            omega
          · rw [if_neg (by simpa using c3), if_neg (by simp)]
            by_cases c4 : d < c
            · rw [if_pos (decide_eq_true c4), bind_s]
              congr 1
              symm
              rw [show ((1 : Int) == 0) = false from rfl, decide_eq_false_iff_not]
              intro e
              have := (Prod.mk.inj e).1
              omega
            · rw [if_neg (by simpa using c4), bind_s]
              obtain rfl : c = d := by omega
              simp
        · rw [if_neg (by simp; omega), if_pos (decide_eq_true (by omega)), bind_s]
          congr 1
          symm
          rw [show ((1 : Int) == 0) = false from rfl, decide_eq_false_iff_not]
          intro e
          exact c2 (by rw [(Prod.mk.inj e).2])
  · rintro i ⟨h0, h1⟩
    obtain ⟨n, rfl⟩ := Int.eq_ofNat_of_zero_le h0
    simp only [Int.toNat_natCast]
    by_cases hx : n < x.length
    · rw [if_pos (decide_eq_true (by omega))]
      by_cases hy : n < y.length
      · obtain ⟨s, hs, ds⟩ := drop_some hx
        obtain ⟨t, ht, dt⟩ := drop_some hy
        rw [if_pos (decide_eq_true (by omega)), idxO_nat, idxO_nat, hs, ht, bind_s, bind_s, ds, dt, cl]
        cases e1 : lessB s.1 t.1 with
        | true => rfl
        | false =>
          rw [if_neg Bool.false_ne_true, if_neg Bool.false_ne_true]
          cases e2 : eqB s.1 t.1 with
          | false => rfl
          | true =>
            rw [if_pos (show true = true from rfl), if_pos (show true = true from rfl)]
            by_cases h2 : s.2 < t.2
            · rw [if_pos h2, if_pos (decide_eq_true h2)]; rfl
            · rw [if_neg h2, if_neg (show ¬ decide (s.2 < t.2) = true by simpa using h2)]
              by_cases h3 : s.2 = t.2
              · rw [if_pos h3, if_pos (show (s.2 == t.2) = true by simpa using h3), bind_s, on_nx, wrap_in (by omega) (by omega), show ((n : Int) + 1).toNat = n + 1 by omega]
              · rw [if_neg h3, if_neg (show ¬ (s.2 == t.2) = true by simpa using h3)]; rfl
      · rw [if_neg (by simpa using by omega), bind_s, on_br, show y.drop n = [] from List.drop_eq_nil_of_le (by omega)]
        have : cl (x.drop n) [] = none := by cases x.drop n <;> rfl
        rw [this]
        simp only
        congr 2
        omega
    · rw [if_neg (by simpa using by omega), bind_s, on_br, show x.drop n = [] from List.drop_eq_nil_of_le (by omega)]
      have : cl [] (y.drop n) = none := by cases y.drop n <;> rfl
      rw [this]
      simp only
      congr 2
      omega
  · rintro i i' ⟨h0, h1⟩ h
    obtain ⟨n, rfl⟩ := Int.eq_ofNat_of_zero_le h0
    by_cases hx : n < x.length
    · rw [if_pos (decide_eq_true (by omega))] at h
      by_cases hy : n < y.length
      · obtain ⟨s, hs, ds⟩ := drop_some hx
        obtain ⟨t, ht, dt⟩ := drop_some hy
        rw [if_pos (decide_eq_true (by omega)), idxO_nat, idxO_nat, hs, ht, bind_s, bind_s] at h
        split at h
        · simp at h
        · split at h
          · split at h
            · simp at h
            · split at h
              · rw [wrap_in (by omega) (by omega)] at h
                simp at h
                subst h
                omega
              · simp at h
          · simp at h
      · rw [if_neg (by simpa using by omega)] at h
        simp at h
    · rw [if_neg (by simpa using by omega)] at h
      simp at h
theorem l_equal (a b : Int × List Tm) (ha : a.2.length ≤ 1000000) : linear_Equal a b = some (decide (a = b)) := by
  obtain ⟨c, x⟩ := a
  obtain ⟨d, y⟩ := b
  simp only at ha
  unfold linear_Equal slices_Equal_L_api_Coef
  simp only
  by_cases c1 : c = d
  · subst c1
    rw [if_pos (by simp)]
    by_cases c2 : x.length = y.length
    · rw [if_neg (by simp [c2])]
      rw [forC_val (n := x.length) (s := ()) (R := Bool) (by omega) (fun k _ => some (if x.drop k = y.drop k then .inl () else .inr false)) (fun _ _ => True) trivial (fun _ _ => by rw [List.drop_length, show y.drop x.length = [] by rw [c2, List.drop_length]]; rfl) ?_ (fun _ _ _ _ _ _ => trivial)]
      · rw [List.drop_zero, List.drop_zero]
        by_cases h : x = y
        · subst h; simp
        · simp [h]
      · rintro k _ hk _
        obtain ⟨s, hs, ds⟩ := drop_some hk
        obtain ⟨t, ht, dt⟩ := drop_some (l := y) (n := k) (by omega)
        simp only [hs, ht, bind_s, ds, dt]
        by_cases h1 : s.1 = t.1
        · rw [if_pos (eqB_iff.2 h1)]
          by_cases h2 : s.2 = t.2
          · obtain rfl : s = t := Prod.ext h1 h2
            rw [if_pos (show (s.2 == s.2) = true by simp), bind_s, on_nx]
            simp
          · rw [if_neg (show ¬ (s.2 == t.2) = true by simpa using h2), bind_s, on_rt, if_neg (fun e => h2 (by rw [(List.cons.inj e).1]))]
        · rw [if_neg (fun e => h1 (eqB_iff.1 e)), bind_s, on_rt, if_neg (fun e => h1 (by rw [(List.cons.inj e).1]))]
    · rw [if_pos (by simpa using by omega), bind_s]
      congr 1
      symm
      rw [decide_eq_false_iff_not]
      intro e
      exact c2 (by rw [(Prod.mk.inj e).2])
  · rw [if_neg (by simpa using c1)]
    congr 1
    symm
    rw [decide_eq_false_iff_not]
    intro e
    exact c1 (Prod.mk.inj e).1

/-! Sizes. -/
def szE : Nat → T_api_Cert → Int
  | 0, _ => 0
  | n + 1, c => 1 + (c.f3.map (szE n)).sum
def fewT (ts : List Tm) : Prop := ts.length ≤ 8 ∧ ∀ t ∈ ts, t.1.size ≤ 40
def gd : Nat → T_api_Cert → Prop
  | 0, _ => False
  | n + 1, c => c.f1.length ≤ 60 ∧ fewT c.f2.2 ∧ c.f3.length ≤ 12 ∧ (∀ k ∈ c.f3, gd n k) ∧ szE (n + 1) c ≤ 12
theorem few_names {ts : List Tm} (h : fewT ts) : names ts := ⟨by have := h.1; omega, fun t ht => by have := h.2 t ht; omega⟩
theorem sz_pos : ∀ {n : Nat} {c : T_api_Cert}, 0 ≤ szE n c
  | 0, _ => Int.le_refl _
  | n + 1, c => by
    have : ∀ l : List T_api_Cert, 0 ≤ (l.map (szE n)).sum := fun l => by
      induction l with
      | nil => simp
      | cons x l ih => have := @sz_pos n x; simp only [List.map_cons, List.sum_cons]; omega
    have := this c.f3
    rw [szE]; omega
theorem gd_sz : ∀ {n : Nat} {c : T_api_Cert}, gd n c → 1 ≤ szE n c ∧ szE n c ≤ 12
  | 0, _, h => h.elim
  | n + 1, c, ⟨_, _, _, _, h⟩ => by
    refine ⟨?_, h⟩
    have : ∀ l : List T_api_Cert, 0 ≤ (l.map (szE n)).sum := fun l => by
      induction l with
      | nil => simp
      | cons x l ih => have := @sz_pos n x; simp only [List.map_cons, List.sum_cons]; omega
    have := this c.f3
    rw [szE]; omega
theorem sum_take {n : Nat} : ∀ (l : List T_api_Cert) (k : Nat), 0 ≤ ((l.take k).map (szE n)).sum ∧ ((l.take k).map (szE n)).sum ≤ (l.map (szE n)).sum
  | [], k => by simp
  | x :: l, 0 => by
    have h1 := @sz_pos n x
    have := sum_take (n := n) l 0
    simp only [List.take_zero, List.map_nil, List.sum_nil, List.map_cons, List.sum_cons] at this ⊢
    omega
  | x :: l, k + 1 => by
    have h1 := @sz_pos n x
    have := sum_take (n := n) l k
    simp only [List.take_succ_cons, List.map_cons, List.sum_cons]
    omega
theorem sum_step {n : Nat} {l : List T_api_Cert} {k : Nat} {x : T_api_Cert} (h : l[k]? = some x) : ((l.take (k + 1)).map (szE n)).sum = ((l.take k).map (szE n)).sum + szE n x := by
  rw [List.take_add_one, h, Option.toList_some, List.map_append, List.sum_append]
  simp
theorem r_size : ∀ {n : Nat} {c : T_api_Cert} (j : Nat), gd n c → ref07_Size (n + j) c = some (szE n c)
  | 0, _, _, h => h.elim
  | n + 1, c, j, ⟨_, _, h3, h4, h5⟩ => by
    rw [show n + 1 + j = (n + j) + 1 by omega, ref07_Size]
    obtain ⟨s, e1, e2⟩ := forC_inv (n := c.f3.length) (s := (1 : Int)) (R := Int) (f := fun (k1483 : Nat) (s1482 : Int) =>
      (c.f3[k1483]?).bind fun x1491 =>
      (ref07_Size (n + j) x1491).bind fun y1495 =>
      some (.nx (IntKind.i64.wrap (s1482 + y1495)))) (by omega) (fun k s => s = 1 + ((c.f3.take k).map (szE n)).sum) (by simp) (by
      rintro k s hk rfl
      obtain ⟨x, hx, _⟩ := drop_some hk
      have hg := h4 x (List.mem_of_getElem? hx)
      have := gd_sz hg
      have b1 := sum_take (n := n) c.f3 k
      rw [szE] at h5
      refine ⟨_, ?_, rfl⟩
      simp only [hx, bind_s, r_size j hg]
      rw [sum_step hx, wrap_in (by omega) (by omega)]
      congr 2
      omega)
    rw [e1, bind_s, elim_l, e2, List.take_length, szE]
theorem p_count : ∀ {n : Nat} {c : T_api_Cert} (j : Nat) (m : Int), gd n c → szE n c ≤ m → m ≤ 1000 → certificate_count (n + j) c m = some (szE n c)
  | 0, _, _, _, h, _, _ => h.elim
  | n + 1, c, j, m, ⟨_, _, h3, h4, h5⟩, hm, hm2 => by
    rw [show n + 1 + j = (n + j) + 1 by omega, certificate_count]
    obtain ⟨s, e1, e2⟩ := forC_inv (n := c.f3.length) (s := (1 : Int)) (R := Int) (f := fun (k289 : Nat) (s288 : Int) =>
      (c.f3[k289]?).bind fun x297 =>
      if (decide (m < s288)) then
        some (.br s288)
      else
        (certificate_count (n + j) x297 (IntKind.i64.wrap (m - s288))).bind fun y302 =>
        some (.nx (IntKind.i64.wrap (s288 + y302)))) (by omega) (fun k s => s = 1 + ((c.f3.take k).map (szE n)).sum) (by simp) (by
      rintro k s hk rfl
      obtain ⟨x, hx, _⟩ := drop_some hk
      have hg := h4 x (List.mem_of_getElem? hx)
      have := gd_sz hg
      have b1 := sum_take (n := n) c.f3 k
      have b2 := sum_take (n := n) c.f3 (k + 1)
      rw [sum_step hx] at b2
      rw [szE] at h5 hm
      refine ⟨_, ?_, rfl⟩
      simp only [hx, bind_s]
      rw [if_neg (by rw [decide_eq_true_eq]; omega), wrap_in (x := m - (1 + ((c.f3.take k).map (szE n)).sum)) (by omega) (by omega), p_count j _ hg (by omega) (by omega), bind_s, sum_step hx, wrap_in (by omega) (by omega)]
      congr 2
      omega)
    rw [e1, bind_s, elim_l, e2, List.take_length, szE]
theorem gd_up : ∀ {n : Nat} {c : T_api_Cert} {m : Nat}, n ≤ m → gd n c → gd m c ∧ szE m c = szE n c
  | 0, _, _, _, h => h.elim
  | n + 1, c, 0, hm, _ => by omega
  | n + 1, c, m + 1, hm, ⟨h1, h2, h3, h4, h5⟩ => by
    have e : szE (m + 1) c = szE (n + 1) c := by
      rw [szE, szE]
      congr 2
      exact List.map_congr_left fun k hk => (gd_up (by omega) (h4 k hk)).2
    exact ⟨⟨h1, h2, h3, fun k hk => (gd_up (by omega) (h4 k hk)).1, by rw [e]; exact h5⟩, e⟩

/-! What the laws ask of their arguments. -/
def lim : Nat → T_api_Cert → Prop
  | 0, _ => True
  | n + 1, c => c.f2.2.length ≤ 9223372036854775807 ∧ ∀ k ∈ c.f3, lim n k
theorem r_few4 (l : Int × List Tm) (hl : l.2.length ≤ 9223372036854775807) (k : Int) : ref04_Few l k = some (l.2.all (fun t => decide (t.1.size ≤ 40)) && decide ((l.2.length : Int) ≤ k)) := by
  unfold ref04_Few
  rw [forC_all (xs := l.2) (s := ()) (r := false) (by omega) (fun t => decide (t.1.size ≤ 40)) (fun k x hx => by
    simp only [hx, bind_s]
    by_cases h : x.1.size ≤ 40
    · rw [if_neg (by simpa using by omega), decide_eq_true h, if_pos rfl]
    · rw [if_pos (decide_eq_true (by omega)), decide_eq_false h, if_neg (by simp)])]
  cases l.2.all (fun t => decide (t.1.size ≤ 40)) <;> rfl
theorem few_of {l : Int × List Tm} (h : (l.2.all (fun t => decide (t.1.size ≤ 40)) && decide ((l.2.length : Int) ≤ 8)) = true) : fewT l.2 := by
  simp only [Bool.and_eq_true, List.all_eq_true, decide_eq_true_eq] at h
  exact ⟨by omega, h.1⟩
theorem small_is : ∀ (n : Nat) (c : T_api_Cert) (j : Nat), n ≤ 12 → lim (n + 1) c → ∃ b, ref07_Small (n + 1 + j) c (n : Int) = some b ∧ (b = true → gd n c ∧ szE n c ≤ n)
  | n, c, j, hn, hl => by
    rw [show n + 1 + j = (n + j) + 1 by omega, ref07_Small]
    by_cases c1 : 60 < c.f1.length
    · rw [if_pos (decide_eq_true (by omega))]
      exact ⟨_, rfl, fun h => by cases h⟩
    · rw [if_neg (by simpa using by omega), r_few4 _ hl.1, bind_s]
      cases hf : (c.f2.2.all (fun t => decide (t.1.size ≤ 40)) && decide ((c.f2.2.length : Int) ≤ 8)) with
      | false => exact ⟨_, rfl, fun h => by cases h⟩
      | true =>
        have hf := few_of hf
        rw [if_pos rfl]
        cases n with
        | zero =>
          rw [if_pos (by decide)]
          exact ⟨_, rfl, fun h => by cases h⟩
        | succ n =>
          rw [if_neg (by simpa using by omega)]
          by_cases c2 : n + 1 < c.f3.length
          · rw [if_pos (decide_eq_true (by omega))]
            exact ⟨_, rfl, fun h => by cases h⟩
          · rw [if_neg (by simpa using by omega)]
            have key : ∀ (m k : Nat) (s : Nat), k + m = c.f3.length → s ≤ n + 1 → 1 ≤ s → (∀ x ∈ c.f3.take k, gd n x) → ((c.f3.take k).map (szE n)).sum = (n + 1 : Int) - s → ∃ b, (forI (R := Bool) (fun k3191 (s3190 : Int) =>
              (c.f3[k3191]?).bind fun x3199 =>
              (ref07_Small (n + 1 + j) x3199 (IntKind.i64.wrap (s3190 - (1 : Int)))).bind fun y3203 =>
              if y3203 then
                (ref07_Size 4611686018427387904 x3199).bind fun y3207 =>
                some (.nx (IntKind.i64.wrap (s3190 - y3207)))
              else
                some (.rt false)) m k (s : Int)).bind (Sum.elim (fun s3190 => some true) some) = some b ∧ (b = true → (∀ x ∈ c.f3, gd n x) ∧ (c.f3.map (szE n)).sum ≤ n) := by
              intro m
              induction m with
              | zero =>
                intro k s hk hs hs1 hg he
                refine ⟨true, rfl, fun _ => ?_⟩
                have : c.f3.take k = c.f3 := List.take_of_length_le (by omega)
                rw [this] at hg he
                exact ⟨hg, by omega⟩
              | succ m ih =>
                intro k s hk hs hs1 hg he
                obtain ⟨x, hx, hd⟩ := drop_some (l := c.f3) (n := k) (by omega)
                have hxl := hl.2 x (List.mem_of_getElem? hx)
                rw [forI]
                simp only [hx, bind_s]
                rw [wrap_in (x := (s : Int) - 1) (by omega) (by omega), show ((s : Int) - 1) = ((s - 1 : Nat) : Int) by omega]
                obtain ⟨b, hb, hb2⟩ := small_is (s - 1) x (n + 1 - s + j) (by omega) (by
                  have : ∀ {a b : Nat} {c : T_api_Cert}, b ≤ a → lim a c → lim b c := by
                    intro a
                    induction a with
                    | zero => intro b c h h1; obtain rfl : b = 0 := by omega
                              trivial
                    | succ a ih =>
                      intro b c h h1
                      cases b with
                      | zero => trivial
                      | succ b => exact ⟨h1.1, fun k hk => ih (by omega) (h1.2 k hk)⟩
                  exact this (by omega) hxl)
                rw [show s - 1 + 1 + (n + 1 - s + j) = n + 1 + j by omega] at hb
                rw [hb, bind_s]
                cases b with
                | false => exact ⟨false, rfl, fun h => by cases h⟩
                | true =>
                  obtain ⟨g1, g2⟩ := hb2 rfl
                  obtain ⟨g3, g4⟩ := gd_up (show s - 1 ≤ n by omega) g1
                  have g5 := gd_sz g3
                  have e1 : ref07_Size 4611686018427387904 x = some (szE n x) := by
                    have := r_size (4611686018427387904 - n) g3
                    rwa [show n + (4611686018427387904 - n) = 4611686018427387904 by omega] at this
                  rw [if_pos rfl, e1, bind_s, bind_s]
                  simp only [St.on]
                  rw [wrap_in (by omega) (by omega)]
                  obtain ⟨q, hq⟩ := Int.eq_ofNat_of_zero_le (show 0 ≤ (s : Int) - szE n x by omega)
                  rw [hq]
                  refine ih (k + 1) q (by omega) (by omega) (by omega) (fun y hy => ?_) ?_
                  · rw [List.take_add_one, hx] at hy
                    rcases List.mem_append.1 hy with hy | hy
                    · exact hg y hy
                    · simp at hy; subst hy; exact g3
                  · rw [sum_step hx, he]; omega
            obtain ⟨b, hb, hb2⟩ := key c.f3.length 0 (n + 1) (by omega) (by omega) (by omega) (by simp) (by simp)
            refine ⟨b, ?_, fun h => ?_⟩
            · rw [forC, if_pos (by omega), show n + 1 + j = n + 1 + j from rfl]
              exact hb
            · obtain ⟨g1, g2⟩ := hb2 h
              refine ⟨⟨by omega, hf, by omega, g1, ?_⟩, ?_⟩
              · rw [szE]; omega
              · rw [szE]; omega
termination_by n => n
decreasing_by omega

end Go.Proofs.Ytgjamefpphhobaa.M7F
