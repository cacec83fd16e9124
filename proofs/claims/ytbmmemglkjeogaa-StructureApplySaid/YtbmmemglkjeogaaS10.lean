/- Structure: what valid arguments look like; the elements of results are there. -/
import Derived.Test.YtbmmemglkjeogaaS9
namespace Go.Proofs.Ytbmmemglkjeogaa.S10
open Go Go.Proofs.Ytbmmemglkjeogaa.Eng Go.Proofs.Ytbmmemglkjeogaa Go.RowKit Go.Proofs.Ytbmmemglkjeogaa.A1 Go.Proofs.Ytbmmemglkjeogaa.A2 Go.Proofs.Ytbmmemglkjeogaa.A3 Go.Proofs.Ytbmmemglkjeogaa.A5 Go.Proofs.Ytbmmemglkjeogaa.S1 Go.Proofs.Ytbmmemglkjeogaa.S2 Go.Proofs.Ytbmmemglkjeogaa.S3 Go.Proofs.Ytbmmemglkjeogaa.S4 Go.Proofs.Ytbmmemglkjeogaa.S5 Go.Proofs.Ytbmmemglkjeogaa.S6 Go.Proofs.Ytbmmemglkjeogaa.S7 Go.Proofs.Ytbmmemglkjeogaa.S8 Go.Proofs.Ytbmmemglkjeogaa.S9
set_option linter.unusedSimpArgs false
set_option linter.unusedVariables false
set_option linter.unusedSectionVars false
set_option maxRecDepth 100000

theorem checkE_ok {e : ByteArray} {ds xs : List Int} (h : checkE e ds xs = 0) : (!isI e && !isB e) = false ∧ sizeE ds = ((xs.length : Int), 0) ∧ xs.any (fun n => !validE e n) = false := by
  unfold checkE at h
  split at h
  · cases h
  rename_i h1
  split at h
  · rename_i h2; exact absurd h h2
  rename_i h2
  split at h
  · cases h
  rename_i h3
  split at h
  · cases h
  rename_i h4
  refine ⟨by simpa using h1, ?_, by simpa using h4⟩
  have h2 : (sizeE ds).2 = 0 := by simpa using h2
  have h3 : (xs.length : Int) = (sizeE ds).1 := by simpa using h3
  rw [h3, ← h2]
theorem checkE_mk {e : ByteArray} {ds xs : List Int} (h1 : (!isI e && !isB e) = false) (h2 : sizeE ds = ((xs.length : Int), 0)) (h3 : xs.any (fun n => !validE e n) = false) : checkE e ds xs = 0 := by
  unfold checkE
  rw [if_neg (by simp [h1]), h2, if_neg (by simp), if_neg (by simp), if_neg (by simp [h3])]

theorem badDim_no {d : Int} (h0 : 0 ≤ d) (h1 : d ≤ 4096) : badDim d = false := by unfold badDim; simp; omega
theorem size0 : sizeE [] = (1, 0) := rfl
theorem size1d {d : Int} (h0 : 0 ≤ d) (h1 : d ≤ 4096) : sizeE [d] = (d, 0) := by
  unfold sizeE
  rw [if_neg (by simp), if_neg (by simp [badDim_no h0 h1])]
  split
  · rename_i h; simp at h; subst h; rfl
  · simp only [prodE]
    rw [wrap_in (x := 1 * d) (by omega) (by omega), if_neg (by omega), Int.one_mul]
theorem size2d {r c : Int} (h0 : 0 ≤ r) (h1 : r ≤ 4096) (h2 : 0 ≤ c) (h3 : c ≤ 4096) (h4 : r * c ≤ 4096) : sizeE [r, c] = (r * c, 0) := by
  unfold sizeE
  have hab : 0 ≤ r * c := Int.mul_nonneg h0 h2
  rw [if_neg (by simp), if_neg (by simp [badDim_no h0 h1, badDim_no h2 h3])]
  split
  · rename_i h
    simp at h
    rcases h with rfl | rfl <;> simp
  · simp only [prodE]
    rw [wrap_in (x := 1 * r) (by omega) (by omega), if_neg (by omega), Int.one_mul, wrap_in (x := r * c) (by omega) (by omega), if_neg (by omega)]
theorem size1d_inv {d n : Int} (h : sizeE [d] = (n, 0)) : 0 ≤ d ∧ d ≤ 4096 ∧ n = d := by
  have hk := size_ok (ds := [d]) (by rw [h]) d (by simp)
  rw [size1d hk.1 hk.2] at h
  simp at h
  exact ⟨hk.1, hk.2, h.symm⟩
theorem size2d_inv {r c n : Int} (h : sizeE [r, c] = (n, 0)) : 0 ≤ r ∧ r ≤ 4096 ∧ 0 ≤ c ∧ c ≤ 4096 ∧ n = r * c ∧ r * c ≤ 4096 := by
  have hk1 := size_ok (ds := [r, c]) (by rw [h]) r (by simp)
  have hk2 := size_ok (ds := [r, c]) (by rw [h]) c (by simp)
  have hn := sizeE_bound [r, c]
  have h4 : r * c ≤ 4096 := by
    have hab : 0 ≤ r * c := Int.mul_nonneg hk1.1 hk2.1
    have hab2 : r * c ≤ 4096 * 4096 := by
      have := Int.mul_le_mul hk1.2 hk2.2 hk2.1 (by omega : (0 : Int) ≤ 4096)
      omega
    unfold sizeE at h
    rw [if_neg (by simp), if_neg (by simp [badDim_no hk1.1 hk1.2, badDim_no hk2.1 hk2.2])] at h
    split at h
    · rename_i h0
      simp at h0
      rcases h0 with rfl | rfl <;> simp
    · simp only [prodE] at h
      rw [wrap_in (x := 1 * r) (by omega) (by omega), if_neg (by omega), Int.one_mul, wrap_in (x := r * c) (by omega) (by omega)] at h
      split at h
      · simp at h
      · omega
  rw [size2d hk1.1 hk1.2 hk2.1 hk2.2 h4] at h
  simp at h
  exact ⟨hk1.1, hk1.2, hk2.1, hk2.2, h.symm, h4⟩

/-- A valid array, by its rank. -/
theorem good {a : Ar} (h : badA a = false) : checkE a.1 a.2.1 a.2.2 = 0 := by
  unfold badA at h
  simpa using h
theorem sca {a : Ar} (h : badA a = false) (hr : (a.2.1.length : Int) = 0) : ∃ v, a = (a.1, [], [v]) := by
  obtain ⟨e, ds, xs⟩ := a
  obtain ⟨_, h2, _⟩ := checkE_ok (good h)
  simp only at hr h2
  obtain rfl : ds = [] := List.eq_nil_of_length_eq_zero (by omega)
  rw [size0] at h2
  match xs, h2 with
  | [v], _ => exact ⟨v, rfl⟩
  | [], h2 => simp at h2
  | _ :: _ :: _, h2 => simp at h2; omega
theorem vec {a : Ar} (h : badA a = false) (hr : (a.2.1.length : Int) = 1) : a = (a.1, [(a.2.2.length : Int)], a.2.2) ∧ a.2.2.length ≤ 4096 := by
  obtain ⟨e, ds, xs⟩ := a
  obtain ⟨_, h2, _⟩ := checkE_ok (good h)
  simp only at hr h2
  match ds, hr with
  | [d], _ =>
    obtain ⟨_, h4, rfl⟩ := size1d_inv h2
    exact ⟨rfl, by simp only; omega⟩
  | [], hr => simp at hr
  | _ :: _ :: _, hr => simp at hr; omega
theorem mat {a : Ar} (h : badA a = false) (hr : (a.2.1.length : Int) = 2) : ∃ r c : Int, a = (a.1, [r, c], a.2.2) ∧ 0 ≤ r ∧ r ≤ 4096 ∧ 0 ≤ c ∧ c ≤ 4096 ∧ (a.2.2.length : Int) = r * c ∧ r * c ≤ 4096 := by
  obtain ⟨e, ds, xs⟩ := a
  obtain ⟨_, h2, _⟩ := checkE_ok (good h)
  simp only at hr h2
  match ds, hr with
  | [r, c], _ =>
    obtain ⟨h3, h4, h5, h6, h7, h8⟩ := size2d_inv h2
    exact ⟨r, c, rfl, h3, h4, h5, h6, h7, h8⟩
  | [], hr => simp at hr
  | [_], hr => simp at hr
  | _ :: _ :: _ :: _, hr => simp at hr; omega

/-- The arguments of a run. -/
structure Run (o : Op13) (zs : List Int) (num : Int) (l : List Ar) (out : List Int) : Prop where
  form : formB o zs.length l.length num = true
  val : l.any badA = false
  rd : rdE o zs num (l.map (·.2.1)) = (out, 0)
theorem rd_parts {o : Op13} {zs : List Int} {num : Int} {L : List (List Int)} {out : List Int} (h : rdE o zs num L = (out, 0)) : rankB o L 0 = true ∧ dm o (kOf o zs num L.length) L.flatten = (out, 0) ∧ (sizeE out).2 = 0 := by
  unfold rdE at h
  split at h
  · simp at h
  rename_i h0
  split at h
  · rename_i h1; simp at h; exact absurd h.2 h1
  split at h
  · rename_i h1; simp at h; exact absurd h.2 h1
  rename_i h2
  split at h
  · rename_i h1; simp at h; exact absurd h.2 h1
  · rename_i h1
    simp at h
    rw [h] at h1
    exact ⟨by simpa using h0, Prod.ext h (by simpa using h2), by simpa using h1⟩

section
variable {o : Op13} {zs : List Int} {num : Int} {l : List Ar} {out : List Int}
theorem Run.ranks (h : Run o zs num l out) : (∀ i a, l[i]? = some a → badA a = false ∧ (a.2.1.length : Int) = rank o i) ∧ ((ix o == 12) = false → l.length = (rk o).length) ∧ (zs.length : Int) = sz o ∧ (num = 0 ∨ ix o = 9) ∧ (ix o = 12 → 0 < l.length) := by
  obtain ⟨hr, _, _⟩ := rd_parts h.rd
  have key : ∀ (l : List Ar) (k : Nat), rankB o (l.map (·.2.1)) k = true → ∀ i a, l[i]? = some a → (a.2.1.length : Int) = rank o (k + i) := by
    intro l
    induction l with
    | nil => intro k _ i a h; simp at h
    | cons b l ih =>
      intro k hb i a ha
      rw [List.map_cons, rankB, Bool.and_eq_true] at hb
      cases i with
      | zero => simp at ha; subst ha; simpa using hb.1
      | succ i =>
        have := ih (k + 1) hb.2 i a (by simpa using ha)
        rwa [show k + 1 + i = k + (i + 1) by omega] at this
  have hf := h.form
  unfold formB at hf
  simp only [Bool.and_eq_true] at hf
  refine ⟨fun i a ha => ⟨?_, by have := key l 0 hr i a ha; rwa [Nat.zero_add] at this⟩, fun h12 => ?_, by simpa using hf.1.2, ?_, fun h12 => ?_⟩
  · have := List.any_eq_false.1 h.val a (List.mem_of_getElem? ha)
    simpa using this
  · rw [h12] at hf
    have := hf.1.1
    simp at this
    omega
  · have := hf.2
    by_cases h9 : ix o = 9
    · exact Or.inr h9
    · simp [h9] at this
      exact Or.inl this
  · rw [h12] at hf
    have := hf.1.1
    simp at this
    omega
theorem Run.dms (h : Run o zs num l out) : dm o (kOf o zs num l.length) (l.map (·.2.1)).flatten = (out, 0) := by
  have := (rd_parts h.rd).2.1
  simpa using this
theorem Run.one (h : Run o zs num l out) (hk : rk o = [1]) (h12 : (ix o == 12) = false) : ∃ (e : ByteArray) (xs : List Int), l = [(e, [(xs.length : Int)], xs)] ∧ xs.length ≤ 4096 := by
  obtain ⟨h1, h2, _⟩ := h.ranks
  have hl := h2 h12
  rw [hk] at hl
  match l, hl with
  | [a], _ =>
    obtain ⟨g1, g2⟩ := h1 0 a rfl
    have hr : rank o 0 = 1 := by unfold rank; rw [h12, hk]; rfl
    obtain ⟨g3, g4⟩ := vec g1 (g2.trans hr)
    exact ⟨a.1, a.2.2, by rw [← g3], g4⟩
theorem Run.zero (h : Run o zs num l out) (hk : rk o = [0]) (h12 : (ix o == 12) = false) : ∃ (e : ByteArray) (v : Int), l = [(e, [], [v])] := by
  obtain ⟨h1, h2, _⟩ := h.ranks
  have hl := h2 h12
  rw [hk] at hl
  match l, hl with
  | [a], _ =>
    obtain ⟨g1, g2⟩ := h1 0 a rfl
    have hr : rank o 0 = 0 := by unfold rank; rw [h12, hk]; rfl
    obtain ⟨v, g3⟩ := sca g1 (g2.trans hr)
    exact ⟨a.1, v, by rw [← g3]⟩
theorem Run.two (h : Run o zs num l out) (hk : rk o = [2]) (h12 : (ix o == 12) = false) : ∃ (e : ByteArray) (r c : Int) (xs : List Int), l = [(e, [r, c], xs)] ∧ 0 ≤ r ∧ r ≤ 4096 ∧ 0 ≤ c ∧ c ≤ 4096 ∧ (xs.length : Int) = r * c ∧ r * c ≤ 4096 := by
  obtain ⟨h1, h2, _⟩ := h.ranks
  have hl := h2 h12
  rw [hk] at hl
  match l, hl with
  | [a], _ =>
    obtain ⟨g1, g2⟩ := h1 0 a rfl
    have hr : rank o 0 = 2 := by unfold rank; rw [h12, hk]; rfl
    obtain ⟨r, c, g3, g4⟩ := mat g1 (g2.trans hr)
    exact ⟨a.1, r, c, a.2.2, by rw [← g3], g4⟩
theorem Run.oneone (h : Run o zs num l out) (hk : rk o = [1, 1]) (h12 : (ix o == 12) = false) : ∃ (e f : ByteArray) (xs ys : List Int), l = [(e, [(xs.length : Int)], xs), (f, [(ys.length : Int)], ys)] ∧ xs.length ≤ 4096 ∧ ys.length ≤ 4096 := by
  obtain ⟨h1, h2, _⟩ := h.ranks
  have hl := h2 h12
  rw [hk] at hl
  match l, hl with
  | [a, b], _ =>
    obtain ⟨g1, g2⟩ := h1 0 a rfl
    have hr : rank o 0 = 1 := by unfold rank; rw [h12, hk]; rfl
    obtain ⟨g3, g4⟩ := vec g1 (g2.trans hr)
    obtain ⟨k1, k2⟩ := h1 1 b rfl
    have hr : rank o 1 = 1 := by unfold rank; rw [h12, hk]; rfl
    obtain ⟨k3, k4⟩ := vec k1 (k2.trans hr)
    exact ⟨a.1, b.1, a.2.2, b.2.2, by rw [← g3, ← k3], g4, k4⟩
theorem Run.onezero (h : Run o zs num l out) (hk : rk o = [1, 0]) (h12 : (ix o == 12) = false) : ∃ (e f : ByteArray) (xs : List Int) (t : Int), l = [(e, [(xs.length : Int)], xs), (f, [], [t])] ∧ xs.length ≤ 4096 := by
  obtain ⟨h1, h2, _⟩ := h.ranks
  have hl := h2 h12
  rw [hk] at hl
  match l, hl with
  | [a, b], _ =>
    obtain ⟨g1, g2⟩ := h1 0 a rfl
    have hr : rank o 0 = 1 := by unfold rank; rw [h12, hk]; rfl
    obtain ⟨g3, g4⟩ := vec g1 (g2.trans hr)
    obtain ⟨k1, k2⟩ := h1 1 b rfl
    have hr : rank o 1 = 0 := by unfold rank; rw [h12, hk]; rfl
    obtain ⟨t, k3⟩ := sca k1 (k2.trans hr)
    exact ⟨a.1, b.1, a.2.2, t, by rw [← g3, ← k3], g4⟩
theorem Run.three (h : Run o zs num l out) (hk : rk o = [1, 0, 0]) (h12 : (ix o == 12) = false) : ∃ (e f g : ByteArray) (xs : List Int) (t v : Int), l = [(e, [(xs.length : Int)], xs), (f, [], [t]), (g, [], [v])] ∧ xs.length ≤ 4096 := by
  obtain ⟨h1, h2, _⟩ := h.ranks
  have hl := h2 h12
  rw [hk] at hl
  match l, hl with
  | [a, b, c], _ =>
    obtain ⟨g1, g2⟩ := h1 0 a rfl
    have hr : rank o 0 = 1 := by unfold rank; rw [h12, hk]; rfl
    obtain ⟨g3, g4⟩ := vec g1 (g2.trans hr)
    obtain ⟨k1, k2⟩ := h1 1 b rfl
    have hr : rank o 1 = 0 := by unfold rank; rw [h12, hk]; rfl
    obtain ⟨t, k3⟩ := sca k1 (k2.trans hr)
    obtain ⟨m1, m2⟩ := h1 2 c rfl
    have hr : rank o 2 = 0 := by unfold rank; rw [h12, hk]; rfl
    obtain ⟨v, m3⟩ := sca m1 (m2.trans hr)
    exact ⟨a.1, b.1, c.1, a.2.2, t, v, by rw [← g3, ← k3, ← m3], g4⟩
end
end Go.Proofs.Ytbmmemglkjeogaa.S10
