/- Views: steps keep a view valid. -/
import Derived.Test.YtimagnkdgpfamaaV11
namespace Go.Proofs.Ytimagnkdgpfamaa.V12
open Go Go.Proofs.Ytimagnkdgpfamaa.Eng Go.Proofs.Ytimagnkdgpfamaa Go.RowKit Go.Proofs.Ytimagnkdgpfamaa.A1 Go.Proofs.Ytimagnkdgpfamaa.A2 Go.Proofs.Ytimagnkdgpfamaa.A3 Go.Proofs.Ytimagnkdgpfamaa.A4 Go.Proofs.Ytimagnkdgpfamaa.A5 Go.Proofs.Ytimagnkdgpfamaa.A8 Go.Proofs.Ytimagnkdgpfamaa.A10 Go.Proofs.Ytimagnkdgpfamaa.V1 Go.Proofs.Ytimagnkdgpfamaa.V2 Go.Proofs.Ytimagnkdgpfamaa.V3 Go.Proofs.Ytimagnkdgpfamaa.V4 Go.Proofs.Ytimagnkdgpfamaa.V5 Go.Proofs.Ytimagnkdgpfamaa.V6 Go.Proofs.Ytimagnkdgpfamaa.V7 Go.Proofs.Ytimagnkdgpfamaa.V11
set_option linter.unusedSimpArgs false
set_option linter.unusedVariables false
set_option linter.unusedSectionVars false
set_option maxRecDepth 100000

theorem mn_app : ∀ (A B L M : List Int), A.length = B.length → mn (A ++ L) (B ++ M) = mn A B + mn L M
  | [], [], L, M, _ => by simp [mn]
  | [], _ :: _, _, _, h => by simp at h
  | _ :: _, [], _, _, h => by simp at h
  | a :: A, b :: B, L, M, h => by rw [List.cons_append, List.cons_append, mn, mn, mn_app A B L M (by simpa using h)]; omega
theorem mx_app : ∀ (A B L M : List Int), A.length = B.length → mx (A ++ L) (B ++ M) = mx A B + mx L M
  | [], [], L, M, _ => by simp [mx]
  | [], _ :: _, _, _, h => by simp at h
  | _ :: _, [], _, _, h => by simp at h
  | a :: A, b :: B, L, M, h => by rw [List.cons_append, List.cons_append, mx, mx, mx_app A B L M (by simpa using h)]; omega
theorem m1 {d s : Int} (h : 1 ≤ d) : mn [d] [s] = min 0 (s * (d - 1)) ∧ mx [d] [s] = max 0 (s * (d - 1)) := by
  simp only [mn, mx]
  have a : s < 0 → s * (d - 1) ≤ 0 := fun h2 => by
    have := Int.mul_nonneg (show 0 ≤ -s by omega) (show 0 ≤ d - 1 by omega)
    rw [Int.neg_mul] at this
    omega
  have b : ¬ s < 0 → 0 ≤ s * (d - 1) := fun h2 => Int.mul_nonneg (by omega) (by omega)
  generalize s * (d - 1) = p at *
  split <;> rename_i h2
  · have := a h2
    omega
  · have := b h2
    omega
theorem m2 {d e s t : Int} (h : 1 ≤ d) (h2 : 1 ≤ e) : mn [d, e] [s, t] = min 0 (s * (d - 1)) + min 0 (t * (e - 1)) ∧ mx [d, e] [s, t] = max 0 (s * (d - 1)) + max 0 (t * (e - 1)) := by
  have := mn_app [d] [s] [e] [t] rfl
  have h3 := mx_app [d] [s] [e] [t] rfl
  simp only [List.cons_append, List.nil_append] at this h3
  rw [this, h3, (m1 h).1, (m1 h).2, (m1 h2).1, (m1 h2).2]
  exact ⟨rfl, rfl⟩

/-- What a step makes of the last dimensions keeps within what they had. -/
def Keeps (L M : List Int) (c : Vw) : Prop := (∀ s ∈ c.2.2, i64 s) ∧ c.2.1.length = c.2.2.length ∧ (0 ∈ L → 0 ∈ c.2.1) ∧
  ((∀ d ∈ L, 1 ≤ d) → -99 ≤ mn L M → mx L M ≤ 99 → 0 ∈ c.2.1 ∨ (mn L M ≤ c.1 + mn c.2.1 c.2.2 ∧ c.1 + mx c.2.1 c.2.2 ≤ mx L M))

/-- A product with a smaller factor. -/
theorem mul_small {s e : Int} (he : 1 ≤ e) (h : -99 ≤ s * e ∧ s * e ≤ 99) : -99 ≤ s ∧ s ≤ 99 := by
  constructor
  · rcases (show s < 0 ∨ 0 ≤ s by omega) with h0 | h0
    · have := Int.mul_le_mul_of_nonneg_left he (show 0 ≤ -s by omega)
      rw [Int.neg_mul, Int.neg_mul] at this
      omega
    · omega
  · rcases (show s < 0 ∨ 0 ≤ s by omega) with h0 | h0
    · omega
    · have := Int.mul_le_mul_of_nonneg_left he h0
      omega
theorem mul_part {s a b : Int} (ha : 0 ≤ a) (hab : a ≤ b) : min 0 (s * b) ≤ s * a ∧ s * a ≤ max 0 (s * b) := by
  rcases (show s < 0 ∨ 0 ≤ s by omega) with h0 | h0
  · have h1 := Int.mul_le_mul_of_nonneg_left hab (show 0 ≤ -s by omega)
    have h2 := Int.mul_nonneg (show 0 ≤ -s by omega) ha
    rw [Int.neg_mul] at h1 h2
    rw [Int.neg_mul] at h1
    omega
  · have h1 := Int.mul_le_mul_of_nonneg_left hab h0
    have h2 := Int.mul_nonneg h0 ha
    omega

section
variable {d s k : Int} (hd : 0 ≤ d ∧ d ≤ 4096) (hs : i64 s)
include hd hs
theorem keep_take (h : (takeC d s k).2 = 0) : Keeps [d] [s] (takeC d s k).1 := by
  unfold takeC at h ⊢
  by_cases hc : k < 0 ∨ d < k
  · rw [if_pos hc] at h
    simp [noC] at h
  rw [if_neg hc]
  refine ⟨by simpa using hs, rfl, by simp; omega, fun h1 h2 h3 => ?_⟩
  have hd1 := h1 d (by simp)
  simp only
  by_cases hk : k = 0
  · left; simp [hk]
  right
  rw [(m1 hd1).1, (m1 hd1).2, (m1 (show 1 ≤ k by omega)).1, (m1 (show 1 ≤ k by omega)).2]
  have := mul_part (s := s) (a := k - 1) (b := d - 1) (by omega) (by omega)
  omega
theorem keep_drop (h : (dropC d s k).2 = 0) : Keeps [d] [s] (dropC d s k).1 := by
  unfold dropC at h ⊢
  by_cases hc : k < 0 ∨ d < k
  · rw [if_pos hc] at h
    simp [noC] at h
  rw [if_neg hc]
  by_cases hk : k = d
  · rw [if_pos hk]
    exact ⟨by simpa using hs, rfl, by simp, fun _ _ _ => Or.inl (by simp)⟩
  rw [if_neg hk]
  have hw : W (d - k) = d - k := wW (by omega) (by omega)
  refine ⟨by simpa using hs, rfl, by simp; omega, fun h1 h2 h3 => Or.inr ?_⟩
  have hd1 := h1 d (by simp)
  simp only
  rw [hw]
  rw [(m1 hd1).1] at h2 ⊢
  rw [(m1 hd1).2] at h3 ⊢
  rw [(m1 (show 1 ≤ d - k by omega)).1, (m1 (show 1 ≤ d - k by omega)).2]
  have g1 := mul_part (s := s) (a := k) (b := d - 1) (by omega) (by omega)
  have g2 := mul_part (s := s) (a := d - k - 1) (b := d - 1) (by omega) (by omega)
  have e : s * (d - 1) = s * k + s * (d - k - 1) := by rw [← Int.mul_add]; congr 1; omega
  have g0 : min 0 (s * k) ≤ 0 ∧ (0 ≤ s ∨ s ≤ 0) := by omega
  have sg1 : 0 ≤ s → 0 ≤ s * k ∧ 0 ≤ s * (d - k - 1) := fun h => ⟨Int.mul_nonneg h (by omega), Int.mul_nonneg h (by omega)⟩
  have sg2 : s ≤ 0 → s * k ≤ 0 ∧ s * (d - k - 1) ≤ 0 := fun h => ⟨Int.mul_nonpos_of_nonpos_of_nonneg h (by omega), Int.mul_nonpos_of_nonpos_of_nonneg h (by omega)⟩
  rw [Int.mul_comm k s]
  generalize s * (d - 1) = p at *
  generalize s * (d - k - 1) = q at *
  generalize s * k = r at *
  rw [wW (x := r) (by omega) (by omega)]
  rcases g0.2 with g | g
  · have := sg1 g
    omega
  · have := sg2 g
    omega
theorem keep_rev : Keeps [d] [s] (revC d s).1 := by
  unfold revC
  refine ⟨by simpa using i64_wrap _, rfl, by simp, fun h1 h2 h3 => Or.inr ?_⟩
  have hd1 := h1 d (by simp)
  have hw : W (d - 1) = d - 1 := wW (by omega) (by omega)
  simp only
  rw [hw, show max (d - 1) 0 = d - 1 by omega]
  rw [(m1 hd1).1] at h2 ⊢
  rw [(m1 hd1).2] at h3 ⊢
  rw [(m1 hd1).1, (m1 hd1).2]
  by_cases hd2 : d = 1
  · subst hd2
    simp [W, show IntKind.i64.wrap 0 = 0 from rfl]
  have := mul_small (s := s) (e := d - 1) (by omega) (by omega)
  rw [wW (x := 0 - s) (by omega) (by omega), Int.zero_sub, Int.neg_mul, Int.mul_comm (d - 1) s]
  generalize s * (d - 1) = p at *
  rw [wW (x := p) (by omega) (by omega)]
  omega
theorem keep_win (h : (winC d s k).2 = 0) : Keeps [d] [s] (winC d s k).1 := by
  unfold winC at h ⊢
  by_cases hc : k < 0 ∨ d < k
  · rw [if_pos hc] at h
    simp [noC] at h
  rw [if_neg hc]
  have hw : W (W (d - k) + 1) = d - k + 1 := by rw [wW (x := d - k) (by omega) (by omega), wW (by omega) (by omega)]
  simp only [hw]
  refine ⟨by simpa using hs, rfl, by simp; omega, fun h1 h2 h3 => ?_⟩
  have hd1 := h1 d (by simp)
  simp only
  by_cases hk : k = 0
  · left; simp [hk]
  right
  rw [(m1 hd1).1, (m1 hd1).2, (m2 (show 1 ≤ d - k + 1 by omega) (show 1 ≤ k by omega)).1, (m2 (show 1 ≤ d - k + 1 by omega) (show 1 ≤ k by omega)).2]
  have e : s * (d - 1) = s * (d - k + 1 - 1) + s * (k - 1) := by rw [← Int.mul_add]; congr 1; omega
  have sg1 : 0 ≤ s → 0 ≤ s * (d - k + 1 - 1) ∧ 0 ≤ s * (k - 1) := fun h => ⟨Int.mul_nonneg h (by omega), Int.mul_nonneg h (by omega)⟩
  have sg2 : s ≤ 0 → s * (d - k + 1 - 1) ≤ 0 ∧ s * (k - 1) ≤ 0 := fun h => ⟨Int.mul_nonpos_of_nonpos_of_nonneg h (by omega), Int.mul_nonpos_of_nonpos_of_nonneg h (by omega)⟩
  have g0 : 0 ≤ s ∨ s ≤ 0 := by omega
  generalize s * (d - 1) = p at *
  generalize s * (d - k + 1 - 1) = q at *
  generalize s * (k - 1) = r at *
  rcases g0 with g | g
  · have := sg1 g
    omega
  · have := sg2 g
    omega
theorem keep_chu (h : (chuC d s k).2 = 0) : Keeps [d] [s] (chuC d s k).1 := by
  unfold chuC at h ⊢
  by_cases hc : k < 1 ∨ 64 < k
  · rw [if_pos hc] at h
    simp [noC] at h
  rw [if_neg hc] at h ⊢
  by_cases hm : d.tmod k ≠ 0
  · rw [if_pos hm] at h
    simp [noC] at h
  rw [if_neg hm]
  have hm0 : d % k = 0 := by
    have := Decidable.not_not.1 hm
    rwa [Int.tmod_eq_emod_of_nonneg hd.1] at this
  have t : d.tdiv k = d / k := Int.tdiv_eq_ediv_of_nonneg hd.1
  have hq0 : 0 ≤ d / k := Int.ediv_nonneg hd.1 (by omega)
  have hq1 : d / k ≤ d := Int.ediv_le_self _ hd.1
  have e := Int.mul_ediv_add_emod d k
  rw [hm0, Int.add_zero] at e
  generalize d / k = q at *
  have hw : W (d.tdiv k) = q := by rw [t]; exact wW (by omega) (by omega)
  simp only [hw]
  refine ⟨fun x hx => ?_, rfl, fun h0 => ?_, fun h1 h2 h3 => Or.inr ?_⟩
  · simp only [List.mem_cons, List.not_mem_nil, or_false] at hx
    rcases hx with rfl | rfl
    · exact i64_wrap _
    · exact hs
  · have h00 : d = 0 := (List.mem_singleton.1 h0).symm
    subst h00
    have : k * q = 0 := e
    rcases Int.mul_eq_zero.1 this with h4 | h4
    · omega
    · simp [h4]
  have hd1 := h1 d (by simp)
  have hq : 1 ≤ q := by
    rcases (show 0 < q ∨ q ≤ 0 by omega) with h4 | h4
    · omega
    · have : q = 0 := by omega
      rw [this, Int.mul_zero] at e
      omega
  rw [(m1 hd1).1] at h2 ⊢
  rw [(m1 hd1).2] at h3 ⊢
  rw [(m2 hq (show 1 ≤ k by omega)).1, (m2 hq (show 1 ≤ k by omega)).2]
  by_cases hq2 : q = 1
  · subst hq2
    rw [Int.mul_one] at e
    subst e
    simp
  have ek : W (k * s) = k * s := by
    have g := mul_part (s := s) (a := k) (b := d - 1) (by omega) (by
      have := Int.mul_le_mul_of_nonneg_left (show 2 ≤ q by omega) (show 0 ≤ k by omega)
      omega)
    rw [Int.mul_comm]
    exact wW (by omega) (by omega)
  rw [ek]
  have ed : s * (d - 1) = k * s * (q - 1) + s * (k - 1) := by
    rw [← e, Int.mul_sub, Int.mul_sub, Int.mul_sub, Int.mul_one, Int.mul_one, Int.mul_comm k s, Int.mul_assoc]
    omega
  have sg1 : 0 ≤ s → 0 ≤ k * s * (q - 1) ∧ 0 ≤ s * (k - 1) := fun h => ⟨Int.mul_nonneg (Int.mul_nonneg (by omega) h) (by omega), Int.mul_nonneg h (by omega)⟩
  have sg2 : s ≤ 0 → k * s * (q - 1) ≤ 0 ∧ s * (k - 1) ≤ 0 := fun h => ⟨Int.mul_nonpos_of_nonpos_of_nonneg (Int.mul_nonpos_of_nonneg_of_nonpos (by omega) h) (by omega), Int.mul_nonpos_of_nonpos_of_nonneg h (by omega)⟩
  have g0 : 0 ≤ s ∨ s ≤ 0 := by omega
  generalize s * (d - 1) = p at *
  generalize k * s * (q - 1) = x at *
  generalize s * (k - 1) = r at *
  rcases g0 with g | g
  · have := sg1 g
    omega
  · have := sg2 g
    omega
end
section
variable {d e s t : Int} (hd : 0 ≤ d ∧ d ≤ 4096) (he : 0 ≤ e ∧ e ≤ 4096) (hs : i64 s) (ht : i64 t)
include hd he hs ht
theorem keep_tr : Keeps [d, e] [s, t] (trC d e s t).1 := by
  unfold trC
  refine ⟨by simp [hs, ht], rfl, by simp; omega, fun h1 h2 h3 => Or.inr ?_⟩
  have hd1 := h1 d (by simp)
  have he1 := h1 e (by simp)
  simp only
  rw [(m2 hd1 he1).1, (m2 hd1 he1).2, (m2 he1 hd1).1, (m2 he1 hd1).2]
  omega
theorem keep_dia (h : (diaC d e s t).2 = 0) : Keeps [d, e] [s, t] (diaC d e s t).1 := by
  unfold diaC at h ⊢
  by_cases hc : d ≠ e
  · rw [if_pos hc] at h
    simp [noC] at h
  rw [if_neg hc]
  have hc : d = e := Decidable.not_not.1 hc
  subst hc
  refine ⟨by simpa using i64_wrap _, rfl, by simp, fun h1 h2 h3 => Or.inr ?_⟩
  have hd1 := h1 d (by simp)
  simp only
  rw [(m2 hd1 hd1).1] at h2 ⊢
  rw [(m2 hd1 hd1).2] at h3 ⊢
  rw [(m1 hd1).1, (m1 hd1).2]
  by_cases hd2 : d = 1
  · subst hd2
    simp
  have g1 := mul_small (s := s) (e := d - 1) (by omega) (by omega)
  have g2 := mul_small (s := t) (e := d - 1) (by omega) (by omega)
  rw [wW (x := s + t) (by omega) (by omega), Int.add_mul]
  omega
end
end Go.Proofs.Ytimagnkdgpfamaa.V12
