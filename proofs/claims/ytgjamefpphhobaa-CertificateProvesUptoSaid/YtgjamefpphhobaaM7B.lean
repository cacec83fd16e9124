/- Sums of the reference. -/
import Derived.Test.YtgjamefpphhobaaM7A
namespace Go.Proofs.Ytgjamefpphhobaa.M7B
open Go Go.Proofs.Ytgjamefpphhobaa.Eng Go.Proofs.Ytgjamefpphhobaa Go.RowKit Go.Proofs.Ytgjamefpphhobaa.LM Go.Proofs.Ytgjamefpphhobaa.PK Go.Proofs.Ytgjamefpphhobaa.D7P Go.Proofs.Ytgjamefpphhobaa.D7R Go.Proofs.Ytgjamefpphhobaa.M7A
set_option linter.unusedSimpArgs false
set_option linter.unusedVariables false
set_option linter.unusedSectionVars false
set_option maxRecDepth 100000

theorem less_iff (a b : ByteArray) : lessB a b = true ↔ ltB a b := by rw [← lt_is]; exact ltS_is a b
theorem less_no {a b : ByteArray} (h : ¬ ltB a b) : lessB a b = false := by
  cases hh : lessB a b with
  | false => rfl
  | true => exact absurd ((less_iff a b).1 hh) h
theorem ltB_tri {a b : ByteArray} (h1 : ¬ ltB a b) (h2 : a ≠ b) : ltB b a := by
  rcases sgL_cases (bs a) (bs b) with h | h | h
  · exact absurd h.1 h1
  · exact absurd (bs_inj h.1) h2
  · exact h.1
theorem eqB_no {a b : ByteArray} (h : a ≠ b) : eqB a b = false := by
  cases hh : eqB a b with
  | false => rfl
  | true => exact absurd (eqB_iff.1 hh) h

/-- The second loop of Plus. -/
theorem pack (p : List Tm) (hp : p.length ≤ 1000000) : ∃ s, (whlC (R := (Int × (List (ByteArray × Int)))) ((p, (0 : Int), (0 : Int)) : (List (ByteArray × Int)) × Int × Int) fun s1957 =>
      if (decide (s1957.2.2 < ((s1957.1.length : Nat) : Int))) then
        (idxO s1957.1 s1957.2.2).bind fun x1967 =>
        if (x1967.2 != (0 : Int)) then
          (idxO s1957.1 s1957.2.1).bind fun x1973 =>
          some (.nx ((s1957.1.set s1957.2.1.toNat x1967), (IntKind.i64.wrap (s1957.2.1 + (1 : Int))), (IntKind.i64.wrap (s1957.2.2 + (1 : Int)))))
        else
          some (.nx (s1957.1, s1957.2.1, (IntKind.i64.wrap (s1957.2.2 + (1 : Int)))))
      else
        some (.br (s1957.1, s1957.2.1, s1957.2.2))) = some (.inl s) ∧ 0 ≤ s.2.1 ∧ s.2.1 ≤ s.1.length ∧ s.1.take s.2.1.toNat = p.filter (fun t => !decide (t.2 = 0)) := by
  refine whlC_inv (fun s : List Tm × Int × Int => ∃ k i : Nat, s.2.1 = k ∧ s.2.2 = i ∧ pk p k i s.1) (fun s => 0 ≤ s.2.1 ∧ s.2.1 ≤ s.1.length ∧ s.1.take s.2.1.toNat = p.filter (fun t => !decide (t.2 = 0))) (fun s => p.length - s.2.2.toNat) ⟨0, 0, rfl, rfl, pk_0 p⟩ (by simp; omega) ?_
  rintro ⟨q, kk, ii⟩ ⟨k, i, rfl, rfl, h⟩
  simp only at h ⊢
  have hq := h.2.2.1
  by_cases hi : i < p.length
  · left
    have ht : p[i]? = some p[i] := List.getElem?_eq_getElem hi
    have hg := pk_get h ht
    have hk := h.1
    rw [if_pos (decide_eq_true (by omega)), idxO_nat, hg, bind_s, idxO_nat, List.getElem?_eq_getElem (show k < q.length by omega), bind_s, wrap_in (x := (i : Int) + 1) (by omega) (by omega), wrap_in (x := (k : Int) + 1) (by omega) (by omega)]
    by_cases h0 : p[i].2 = 0
    · rw [if_neg (by simpa using h0)]
      exact ⟨_, rfl, ⟨k, i + 1, rfl, by simp, pk_drop h ht h0⟩, by simp; omega⟩
    · rw [if_pos (by simpa using h0)]
      exact ⟨_, rfl, ⟨k + 1, i + 1, by simp, by simp, by simpa using pk_keep h ht h0⟩, by simp; omega⟩
  · right
    rw [if_neg (by simpa using by omega)]
    exact ⟨_, rfl, by simp, by have := h.1; have := h.2.1; simp; omega, by simpa using pk_end h (by omega)⟩
theorem r_plus (c : Int) (ts : List Tm) (s : ByteArray) (x : Int) (hr : risT ts) (hl : ts.length ≤ 100000) : ref04_Plus (c, ts) s x = some (c, plusT s x ts) := by
  unfold ref04_Plus
  obtain ⟨⟨o, put⟩, h1, h2, h3⟩ := forC_inv (n := ts.length) (s := (([], false) : List Tm × Bool)) (R := Int × List Tm) (f := fun k1904 s1903 =>
    (ts[k1904]?).bind fun x1912 =>
    if s1903.2 then
      if (eqB x1912.1 s) then
        iffO (decide ((s1903.1.length + 1) * 24 ≤ 140737488355328))
          (some (.nx ((s1903.1 ++ [(x1912.1, (IntKind.i64.wrap (x1912.2 + x)))]), true)))
      else
        iffO (decide ((s1903.1.length + 1) * 24 ≤ 140737488355328))
          (some (.nx ((s1903.1 ++ [x1912]), true)))
    else
      if (lessB x1912.1 s) then
        if (eqB x1912.1 s) then
          iffO (decide ((s1903.1.length + 1) * 24 ≤ 140737488355328))
            (some (.nx ((s1903.1 ++ [(x1912.1, (IntKind.i64.wrap (x1912.2 + x)))]), true)))
        else
          iffO (decide ((s1903.1.length + 1) * 24 ≤ 140737488355328))
            (some (.nx ((s1903.1 ++ [x1912]), false)))
      else
        if (eqB x1912.1 s) then
          iffO (decide ((s1903.1.length + 1) * 24 ≤ 140737488355328))
            (some (.nx ((s1903.1 ++ [(x1912.1, (IntKind.i64.wrap (x1912.2 + x)))]), true)))
        else
          iffO (decide ((s1903.1.length + 1) * 24 ≤ 140737488355328))
            (iffO (decide (((s1903.1.length + 1) + 1) * 24 ≤ 140737488355328))
              (some (.nx (((s1903.1 ++ [(s, x)]) ++ [x1912]), true))))) (by omega) (fun k st => k ≤ ts.length ∧ half s x ts k st.2 st.1) ⟨Nat.zero_le _, half_0 s x ts⟩ (by
      rintro k ⟨o, put⟩ hk ⟨_, h⟩
      simp only at h
      obtain ⟨t, ht, _⟩ := drop_some hk
      have hol := h.2.1
      simp only [ht, bind_s]
      cases put with
      | true =>
        obtain ⟨h1, h2⟩ := half_put hr ht h
        have hne : t.1 ≠ s := fun e => ltB_irr s (by rw [e] at h1; exact h1)
        rw [if_pos rfl, eqB_no hne, if_neg (by simp), iffO_d (by omega)]
        exact ⟨_, rfl, hk, h2⟩
      | false =>
        rw [if_neg (by simp)]
        by_cases he : t.1 = s
        · subst he
          have := half_same hr ht h (ltB_irr _) rfl
          rw [eqB_self, if_pos rfl, if_pos rfl, iffO_d (by omega)]
          refine ⟨(o ++ [(t.1, W (t.2 + x))], true), ?_, hk, this⟩
          split <;> rfl
        · rw [eqB_no he]
          by_cases hlt : ltB t.1 s
          · rw [(less_iff _ _).2 hlt, if_pos rfl, if_neg (by simp), iffO_d (by omega)]
            exact ⟨_, rfl, hk, half_more hr ht h (fun h' => ltB_irr _ (List.lt_trans hlt h')) he⟩
          · rw [less_no hlt, if_neg (by simp), if_neg (by simp), iffO_d (by omega), iffO_d (by omega)]
            refine ⟨_, rfl, hk, ?_⟩
            have := half_less hr ht h (ltB_tri hlt he)
            simpa using this)
  simp only at h2 h3
  have hol := h3.2.1
  have he := half_end (Nat.le_refl _) h3
  rw [h1, bind_s, elim_l]
  simp only
  cases put with
  | true =>
    rw [if_pos rfl] at he ⊢
    obtain ⟨st, e1, e2, e3, e4⟩ := pack o (by omega)
    rw [e1, bind_s, elim_l, iffO_t (by simp; exact ⟨e2, e3⟩), e4, ← he]
    rfl
  | false =>
    rw [if_neg (by simp)] at he ⊢
    obtain ⟨st, e1, e2, e3, e4⟩ := pack (o ++ [(s, x)]) (by simp; omega)
    rw [iffO_d (by omega), e1, bind_s, elim_l, iffO_t (by simp; exact ⟨e2, e3⟩), e4, ← he]
    rfl

theorem r_times (a b : Int × List Tm) (k : Int) (hs : sortedT a.2) (la : a.2.length ≤ 10000) (lb : b.2.length ≤ 10000) : ref04_Times a b k = some (timesE a b k) := by
  unfold ref04_Times
  rw [iffO_d (by omega)]
  obtain ⟨⟨c, l⟩, h1, h2, h3, h4, h5⟩ := forC_inv (n := b.2.length) (s := (W (a.1 + W (k * b.1)), a.2)) (R := Int × List Tm) (f := fun k2072 s2071 =>
    (b.2[k2072]?).bind fun x2080 =>
    (ref04_Plus s2071 x2080.1 (IntKind.i64.wrap (k * x2080.2))).bind fun y2084 =>
    some (.nx (y2084.1, y2084.2))) (by omega) (fun i s => s.1 = W (a.1 + W (k * b.1)) ∧ sortedT s.2 ∧ s.2.length ≤ 10000 + i ∧ timesT k (b.2.drop i) s.2 = timesT k b.2 a.2) ⟨rfl, hs, by simpa using la, rfl⟩ (by
      rintro i ⟨c, l⟩ hi ⟨hc, h1, h2, h3⟩
      simp only at hc h1 h2 h3
      obtain ⟨t, ht, hd⟩ := drop_some hi
      simp only [ht, bind_s]
      rw [r_plus c l t.1 _ (sorted_ris h1) (by omega), bind_s]
      refine ⟨_, rfl, hc, plus_sorted _ _ h1, ?_, ?_⟩
      · have := plus_len t.1 (W (k * t.2)) l
        show (plusT t.1 (W (k * t.2)) l).length ≤ _
        omega
      · rw [← h3, hd]; rfl)
  simp only at h2 h3 h4 h5
  rw [h1, bind_s, elim_l]
  rw [List.drop_length] at h5
  show some (c, l) = some (timesE a b k)
  rw [timesE, ← h5, h2]
  rfl

abbrev Fc := Bool × (Int × List Tm)
def okM (f : Fc) (m : Int) : Bool := decide (-1000000000 ≤ m) && (decide (m ≤ 1000000000) && (decide (0 ≤ m) || f.1))
def oks : List Fc → List Int → Bool
  | f :: fs, m :: ms => okM f m && oks fs ms
  | _, _ => true
def comb : List Fc → List Int → Int × List Tm → Int × List Tm
  | f :: fs, m :: ms, l => comb fs ms (if m = 0 then l else timesE l f.2 m)
  | _, _, l => l
def valids (fs : List Fc) : Prop := ∀ f ∈ fs, validE f.2.1 f.2.2 = true
theorem r_combine (fs : List Fc) (ms : List Int) (hv : valids fs) (hl : fs.length ≤ 500) :
    ref07_combine fs ms = some (if ms.length = fs.length ∧ oks fs ms = true then (comb fs ms (0, []), true) else ((0, []), false)) := by
  unfold ref07_combine
  by_cases hn : ms.length = fs.length
  · rw [show (((ms.length : Nat) : Int) != ((fs.length : Nat) : Int)) = false by simp [hn], if_neg (by simp)]
    rw [forC_val (n := ms.length) (s := ((0, []) : Int × List Tm)) (by omega) (fun k (l : Int × List Tm) => some (if oks (fs.drop k) (ms.drop k) = true then .inl (comb (fs.drop k) (ms.drop k) l) else .inr (((0, []), false) : (Int × List Tm) × Bool))) (fun k (l : Int × List Tm) => sortedT l.2 ∧ l.2.length ≤ 12 * k) ⟨trivial, Nat.zero_le _⟩ (fun l _ => by rw [List.drop_length, show fs.drop ms.length = [] by rw [hn, List.drop_length]]; rfl) ?_ ?_]
    · rw [List.drop_zero, List.drop_zero]
      simp only [hn, true_and, bind_s]
      cases oks fs ms <;> rfl
    · rintro k ⟨c, l⟩ hk ⟨h1, h2⟩
      simp only at h1 h2
      obtain ⟨m, hm, hd⟩ := drop_some hk
      obtain ⟨f, hf, hd'⟩ := drop_some (l := fs) (n := k) (by omega)
      have hfm : f ∈ fs := List.mem_of_getElem? hf
      have lf := (valid_parts (hv f hfm)).2.1
      rw [hd, hd', oks, comb, okM]
      simp only [hm, hf, bind_s]
      have ht := r_times (c, l) f.2 m h1 (by simp only; omega) (by omega)
      by_cases c1 : m < -1000000000
      · have e1 : decide (m < -1000000000) = true := decide_eq_true c1
        have e1' : decide (-1000000000 ≤ m) = false := decide_eq_false (by omega)
        simp only [e1, e1', Bool.false_and, if_true, Bool.false_eq_true, if_false, bind_s, on_rt]
      · have e1 : decide (m < -1000000000) = false := decide_eq_false c1
        have e1' : decide (-1000000000 ≤ m) = true := decide_eq_true (by omega)
        simp only [e1, e1', Bool.true_and, Bool.false_eq_true, if_false]
        by_cases c2 : 1000000000 < m
        · have e2 : decide (1000000000 < m) = true := decide_eq_true c2
          have e2' : decide (m ≤ 1000000000) = false := decide_eq_false (by omega)
          simp only [e2, e2', Bool.false_and, if_true, Bool.false_eq_true, if_false, bind_s, on_rt]
        · have e2 : decide (1000000000 < m) = false := decide_eq_false c2
          have e2' : decide (m ≤ 1000000000) = true := decide_eq_true (by omega)
          simp only [e2, e2', Bool.true_and, Bool.false_eq_true, if_false, ht, bind_s]
          by_cases c3 : m < 0
          · have e3 : decide (m < 0) = true := decide_eq_true c3
            have e3' : decide (0 ≤ m) = false := decide_eq_false (by omega)
            have e4 : (m != (0 : Int)) = true := by simpa using by omega
            have e5 : ¬ m = 0 := by omega
            simp only [e3, e3', e4, e5, Bool.false_or, if_true, if_false]
            cases f.1 <;> simp [on, St.on]
          · have e3 : decide (m < 0) = false := decide_eq_false c3
            have e3' : decide (0 ≤ m) = true := decide_eq_true (by omega)
            simp only [e3, e3', Bool.true_or, Bool.false_eq_true, if_false, Bool.true_and]
            by_cases c4 : m = 0
            · simp [c4, on, St.on]
            · have e4 : (m != (0 : Int)) = true := by simpa using c4
              simp only [e4, c4, if_true, if_false]
              simp [on, St.on]
    · rintro k ⟨c, l⟩ ⟨c', l'⟩ hk ⟨h1, h2⟩ h
      simp only at h1 h2
      obtain ⟨m, hm, hd⟩ := drop_some hk
      obtain ⟨f, hf, hd'⟩ := drop_some (l := fs) (n := k) (by omega)
      have hfm : f ∈ fs := List.mem_of_getElem? hf
      have lf := (valid_parts (hv f hfm)).2.1
      have key : (c', l') = (c, l) ∨ (c', l') = timesE (c, l) f.2 m := by
        simp only [hm, hf, bind_s, r_times (c, l) f.2 m h1 (by simp only; omega) (by omega)] at h
        split at h
        · simp at h
        · split at h
          · simp at h
          · split at h
            · split at h
              · split at h
                · right; simp at h; exact Prod.ext h.1.symm h.2.symm
                · left; simp at h; exact Prod.ext h.1.symm h.2.symm
              · simp at h
            · split at h
              · right; simp at h; exact Prod.ext h.1.symm h.2.symm
              · left; simp at h; exact Prod.ext h.1.symm h.2.symm
      rcases key with e | e
      · rw [e]; exact ⟨h1, by simp only; omega⟩
      · rw [e]
        refine ⟨times_S m h1, ?_⟩
        have := timesT_len m f.2.2 l
        show (timesT m f.2.2 l).length ≤ _
        omega
  · rw [if_pos (by simpa using by omega), if_neg (fun h => hn h.1)]

end Go.Proofs.Ytgjamefpphhobaa.M7B
