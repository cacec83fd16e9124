/- Arrays: the arithmetic of offsets and indices. -/
import Derived.Test.YtimagnkdgpfamaaA8
import Derived.Test.YtimagnkdgpfamaaA5
namespace Go.Proofs.Ytimagnkdgpfamaa.A10
open Go Go.Proofs.Ytimagnkdgpfamaa.Eng Go.Proofs.Ytimagnkdgpfamaa Go.RowKit Go.Proofs.Ytimagnkdgpfamaa.A1 Go.Proofs.Ytimagnkdgpfamaa.A2 Go.Proofs.Ytimagnkdgpfamaa.A5 Go.Proofs.Ytimagnkdgpfamaa.A8
set_option linter.unusedSimpArgs false
set_option linter.unusedVariables false
set_option linter.unusedSectionVars false

def prod : List Int → Int
  | [] => 1
  | d :: ds => d * prod ds
/-- Dimensions that have elements, not too many. -/
def fine (ds : List Int) : Prop := ∀ d ∈ ds, 1 ≤ d
theorem prod_pos : ∀ {ds : List Int}, fine ds → 1 ≤ prod ds
  | [], _ => Int.le_refl _
  | d :: ds, h => by
    have h1 := h d (by simp)
    have h2 := prod_pos (ds := ds) fun x hx => h x (by simp [hx])
    have := Int.mul_le_mul h1 h2 (by omega) (by omega)
    simpa [prod] using this

/-- The number of an index. -/
def val : List Int → List Int → Int
  | d :: ds, x :: xs => x * prod ds + val ds xs
  | _, _ => 0
def inR : List Int → List Int → Prop
  | d :: ds, x :: xs => 0 ≤ x ∧ x < d ∧ inR ds xs
  | [], [] => True
  | _, _ => False

theorem val_range : ∀ {ds xs : List Int}, fine ds → inR ds xs → 0 ≤ val ds xs ∧ val ds xs < prod ds
  | [], [], _, _ => by simp [val, prod]
  | d :: ds, x :: xs, h, ⟨h1, h2, h3⟩ => by
    have hf : fine ds := fun z hz => h z (by simp [hz])
    have hp := prod_pos hf
    obtain ⟨a, b⟩ := val_range hf h3
    have e1 : 0 ≤ x * prod ds := Int.mul_nonneg h1 (by omega)
    have e2 : x * prod ds ≤ (d - 1) * prod ds := Int.mul_le_mul_of_nonneg_right (by omega) (by omega)
    rw [Int.sub_mul, Int.one_mul] at e2
    simp only [val, prod]
    omega
  | [], _ :: _, _, h => h.elim
  | _ :: _, [], _, h => h.elim

theorem idxR_val : ∀ {ds : List Int} {o : Int}, fine ds → 0 ≤ o → o ≤ 4096 → inR ds (idxR ds o).1 ∧ 0 ≤ (idxR ds o).2 ∧ (idxR ds o).2 ≤ o ∧ o = (idxR ds o).2 * prod ds + val ds (idxR ds o).1
  | [], o, _, h0, _ => by simp [idxR, inR, prod, val, h0]
  | d :: ds, o, h, h0, h1 => by
    have hd := h d (by simp)
    obtain ⟨a, b, c, e⟩ := idxR_val (ds := ds) (o := o) (fun z hz => h z (by simp [hz])) h0 h1
    rw [idxR]
    generalize idxR ds o = r at *
    have q1 : 0 ≤ r.2.tdiv d := Int.tdiv_nonneg b (by omega)
    have q2 : r.2.tdiv d ≤ r.2 := Int.tdiv_le_self _ b
    have q3 : 0 ≤ r.2.tmod d := Int.tmod_nonneg _ b
    have q4 : r.2.tmod d < d := Int.tmod_lt_of_pos _ (by omega)
    have q5 : r.2.tmod d + d * r.2.tdiv d = r.2 := Int.tmod_add_mul_tdiv _ _
    rw [wrap_in (x := r.2.tdiv d) (by omega) (by omega)]
    refine ⟨⟨q3, q4, a⟩, q1, by simp only; omega, ?_⟩
    simp only [val, prod]
    have e2 : r.2.tdiv d * (d * prod ds) + r.2.tmod d * prod ds = r.2 * prod ds := by
      rw [← Int.mul_assoc, ← Int.add_mul]
      congr 1
      rw [Int.mul_comm (r.2.tdiv d) d]
      omega
    omega

theorem offE_val : ∀ {ds xs : List Int} {m : Int}, fine ds → inR ds xs → 0 ≤ m → (m + 1) * prod ds ≤ 4096 → offE ds xs m = (m * prod ds + val ds xs, 0)
  | [], [], m, _, _, _, _ => by simp [offE, prod, val]
  | d :: ds, x :: xs, m, h, ⟨h1, h2, h3⟩, h0, hb => by
    have hf : fine ds := fun z hz => h z (by simp [hz])
    have hp := prod_pos hf
    have hd := h d (by simp)
    have e1 : 0 ≤ m * d := Int.mul_nonneg h0 (by omega)
    have e2 : (m + 1) * d * prod ds ≤ 4096 := by rw [Int.mul_assoc]; exact hb
    have e3 : (m + 1) * d ≤ (m + 1) * d * prod ds := by
      have := Int.mul_le_mul_of_nonneg_left hp (show 0 ≤ (m + 1) * d from Int.mul_nonneg (by omega) (by omega))
      simpa using this
    have e4 : (m + 1) * d = m * d + d := by rw [Int.add_mul, Int.one_mul]
    rw [offE, if_neg (by omega), wrap_in (x := m * d) (by omega) (by omega), wrap_in (x := m * d + x) (by omega) (by omega)]
    have e5 : (m * d + x + 1) * prod ds ≤ (m + 1) * d * prod ds := Int.mul_le_mul_of_nonneg_right (by omega) (by omega)
    rw [offE_val hf h3 (by omega) (by omega)]
    simp only [val, prod, Prod.mk.injEq, and_true]
    rw [Int.add_mul, Int.mul_assoc]
    omega
  | [], _ :: _, _, _, h, _, _ => h.elim
  | _ :: _, [], _, _, h, _, _ => h.elim

theorem inR_len : ∀ {ds xs : List Int}, inR ds xs → xs.length = ds.length
  | [], [], _ => rfl
  | _ :: _, _ :: _, ⟨_, _, h⟩ => by simp [inR_len h]
  | [], _ :: _, h => h.elim
  | _ :: _, [], h => h.elim
theorem inR_drop : ∀ {ds xs : List Int} (k : Nat), inR ds xs → inR (ds.drop k) (xs.drop k)
  | _, _, 0, h => h
  | [], [], _ + 1, h => h
  | _ :: _, _ :: _, k + 1, ⟨_, _, h⟩ => inR_drop k h
  | [], _ :: _, _ + 1, h => h.elim
  | _ :: _, [], _ + 1, h => h.elim

/-- Where the first numbers differ, they decide. -/
theorem val_lt {d x y : Int} {ds xs ys : List Int} (h : fine (d :: ds)) (hx : inR (d :: ds) (x :: xs)) (hy : inR (d :: ds) (y :: ys)) (hne : x ≠ y) : (val (d :: ds) (x :: xs) < val (d :: ds) (y :: ys)) ↔ x < y := by
  have hf : fine ds := fun z hz => h z (by simp [hz])
  have hp := prod_pos hf
  obtain ⟨a, b⟩ := val_range hf hx.2.2
  obtain ⟨c, e⟩ := val_range hf hy.2.2
  simp only [val]
  rcases Int.lt_or_gt_of_ne hne with h1 | h1
  · have := Int.mul_le_mul_of_nonneg_right (show x + 1 ≤ y by omega) (show 0 ≤ prod ds by omega)
    rw [Int.add_mul, Int.one_mul] at this
    omega
  · have := Int.mul_le_mul_of_nonneg_right (show y + 1 ≤ x by omega) (show 0 ≤ prod ds by omega)
    rw [Int.add_mul, Int.one_mul] at this
    omega

theorem prodE_prod : ∀ {ds : List Int} {m n : Int}, ds.any badDim = false → (∀ d ∈ ds, 1 ≤ d) → 0 ≤ m → m ≤ 4096 → prodE ds m = (n, 0) → n = m * prod ds
  | [], m, n, _, _, _, _, h => by
    simp only [prodE, Prod.mk.injEq] at h
    simp [prod, h.1]
  | d :: ds, m, n, hb, hd, h0, h1, h => by
    rw [List.any_cons, Bool.or_eq_false_iff] at hb
    have hbd : d ≤ 4096 := by have := hb.1; simp [badDim] at this; omega
    have hd1 := hd d (by simp)
    have e1 : 0 ≤ m * d := Int.mul_nonneg h0 (by omega)
    have e2 : m * d ≤ 4096 * 4096 := Int.mul_le_mul h1 hbd (by omega) (by omega)
    rw [prodE, wrap_in (x := m * d) (by omega) (by omega)] at h
    split at h
    · simp at h
    · rw [prodE_prod hb.2 (fun x hx => hd x (by simp [hx])) e1 (by omega) h, prod, Int.mul_assoc]

/-- What a size that is not 0 says of its dimensions. -/
theorem size_fine {ds : List Int} {n : Int} (h : sizeE ds = (n, 0)) (hn : n ≠ 0) : fine ds ∧ n = prod ds ∧ ds.length ≤ 6 ∧ n ≤ 4096 ∧ 1 ≤ n := by
  have hbd := sizeE_bound ds
  rw [h] at hbd
  unfold sizeE at h
  split at h
  · simp at h
  rename_i h6
  split at h
  · simp at h
  rename_i hb
  split at h
  · simp only [Prod.mk.injEq] at h; omega
  rename_i hz
  have hb' : ds.any badDim = false := by simpa using hb
  have hz' : ds.any (fun x => 0 == x) = false := Bool.eq_false_iff.2 hz
  have hf : fine ds := fun d hd => by
    have h1 := List.any_eq_false.1 hb' d hd
    have h2 := List.any_eq_false.1 hz' d hd
    simp [badDim] at h1 h2
    omega
  refine ⟨hf, ?_, by omega, hbd.2, by omega⟩
  have := prodE_prod hb' hf (by omega) (by omega) h
  omega

/-- Indices of two offsets. -/
theorem places {ds : List Int} {n p : Int} (h : sizeE ds = (n, 0)) (hp0 : 0 ≤ p) (hp : p < n) : indexE ds p = ((idxR ds p).1, 0) ∧ inR ds (idxR ds p).1 ∧ val ds (idxR ds p).1 = p ∧ offsetE ds (idxR ds p).1 = (p, 0) := by
  obtain ⟨hf, hn, h6, hb, h1⟩ := size_fine h (by omega)
  obtain ⟨a, b, c, e⟩ := idxR_val hf hp0 (by omega)
  have hr : (idxR ds p).2 = 0 := by
    rcases Int.lt_or_le (idxR ds p).2 1 with h2 | h2
    · omega
    · have h3 := Int.mul_le_mul_of_nonneg_right h2 (show 0 ≤ prod ds by omega)
      have h4 := (val_range hf a).1
      rw [Int.one_mul] at h3
      omega
  have hv : val ds (idxR ds p).1 = p := by rw [hr, Int.zero_mul, Int.zero_add] at e; exact e.symm
  refine ⟨?_, a, hv, ?_⟩
  · unfold indexE
    rw [h, if_neg (by simp), if_neg (by simp only; omega)]
  · unfold offsetE
    rw [h, if_neg (by simp), if_neg (by rw [inR_len a]; simp), offE_val hf a (by omega) (by rw [Int.zero_add, Int.one_mul]; omega), Int.zero_mul, Int.zero_add, hv]
end Go.Proofs.Ytimagnkdgpfamaa.A10
