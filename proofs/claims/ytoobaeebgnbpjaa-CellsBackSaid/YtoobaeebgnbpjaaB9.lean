/- Cells: sizes of parts of dimensions. -/
import Derived.Test.YtoobaeebgnbpjaaB8
namespace Go.Proofs.Ytoobaeebgnbpjaa.B9
open Go Go.Proofs.Ytoobaeebgnbpjaa.Eng Go.Proofs.Ytoobaeebgnbpjaa Go.RowKit Go.Proofs.Ytoobaeebgnbpjaa.A1 Go.Proofs.Ytoobaeebgnbpjaa.A2 Go.Proofs.Ytoobaeebgnbpjaa.A3 Go.Proofs.Ytoobaeebgnbpjaa.A4 Go.Proofs.Ytoobaeebgnbpjaa.A5 Go.Proofs.Ytoobaeebgnbpjaa.B1
set_option linter.unusedSimpArgs false
set_option linter.unusedVariables false

theorem prodE_app : ∀ (xs ys : List Int) (n : Int), prodE (xs ++ ys) n = if (prodE xs n).2 ≠ 0 then prodE xs n else prodE ys (prodE xs n).1
  | [], ys, n => by simp [prodE]
  | x :: xs, ys, n => by
    rw [List.cons_append, prodE, prodE]
    split
    · simp
    · exact prodE_app xs ys _

/-- Dimensions that have elements. -/
def good (ds : List Int) : Prop := ∀ d ∈ ds, 1 ≤ d ∧ d ≤ 4096

theorem prodE_mul : ∀ (ds : List Int) (F m N : Int), good ds → 1 ≤ F → 1 ≤ m → F * m ≤ 4096 → prodE ds (F * m) = (N, 0) → ∃ q, prodE ds m = (q, 0) ∧ N = F * q ∧ 1 ≤ q
  | [], F, m, N, _, _, hm, _, h => by
    simp only [prodE, Prod.mk.injEq] at h
    exact ⟨m, rfl, h.1.symm, hm⟩
  | d :: ds, F, m, N, hg, hF, hm, hle, h => by
    have hd := hg d (by simp)
    have h1 : 1 ≤ F * m := by
      have := Int.mul_le_mul hF hm (by omega) (by omega)
      simpa using this
    have h2 : F * m * d ≤ 4096 * 4096 := Int.mul_le_mul hle hd.2 (by omega) (by omega)
    have h3 : 1 ≤ F * m * d := by
      have := Int.mul_le_mul h1 hd.1 (by omega) (by omega)
      simpa using this
    have h4 : m ≤ F * m := by
      have := Int.mul_le_mul_of_nonneg_right hF (show 0 ≤ m by omega)
      simpa using this
    have h5 : m * d ≤ F * m * d := Int.mul_le_mul_of_nonneg_right h4 (by omega)
    have h6 : 1 ≤ m * d := by
      have := Int.mul_le_mul hm hd.1 (by omega) (by omega)
      simpa using this
    rw [prodE, wrap_in (x := F * m * d) (by omega) (by omega)] at h
    split at h
    · simp at h
    · rename_i hn
      rw [prodE, wrap_in (x := m * d) (by omega) (by omega), if_neg (by omega)]
      rw [Int.mul_assoc] at h
      exact prodE_mul ds F (m * d) N (fun x hx => hg x (by simp [hx])) hF h6 (by rw [← Int.mul_assoc]; omega) h

/-- The place of an index, as both compute it. -/
def kE : List Int → List Int → Int → Option Int
  | f :: fs, o :: os, n => if o < 0 ∨ f ≤ o then none else kE fs os (IntKind.i64.wrap (IntKind.i64.wrap (n * f) + o))
  | _, _, n => some n

theorem kE_lt : ∀ (fs os : List Int) (n G F m : Int), fs.length = os.length → good fs → 0 ≤ n → n < G → G ≤ 4096 → prodE fs G = (F, 0) → kE fs os n = some m → 0 ≤ m ∧ m < F
  | [], [], n, G, F, m, _, _, h0, h1, _, hp, hk => by
    simp only [prodE, Prod.mk.injEq] at hp
    simp only [kE, Option.some.injEq] at hk
    omega
  | f :: fs, o :: os, n, G, F, m, hl, hg, h0, h1, hG, hp, hk => by
    have hd := hg f (by simp)
    rw [kE] at hk
    split at hk
    · cases hk
    rename_i ho
    have e1 : n * f ≤ (G - 1) * f := Int.mul_le_mul_of_nonneg_right (by omega) (by omega)
    have e2 : (G - 1) * f = G * f - f := by rw [Int.sub_mul, Int.one_mul]
    have e3 : 0 ≤ n * f := Int.mul_nonneg h0 (by omega)
    have e4 : G * f ≤ 4096 * 4096 := Int.mul_le_mul hG hd.2 (by omega) (by omega)
    rw [wrap_in (x := n * f) (by omega) (by omega), wrap_in (x := n * f + o) (by omega) (by omega)] at hk
    rw [prodE, wrap_in (x := G * f) (by omega) (by omega)] at hp
    split at hp
    · simp at hp
    exact kE_lt fs os (n * f + o) (G * f) F m (by simpa using hl) (fun x hx => hg x (by simp [hx])) (by omega) (by omega) (by omega) hp hk
  | [], _ :: _, _, _, _, _, h, _, _, _, _, _, _ => by simp at h
  | _ :: _, [], _, _, _, _, h, _, _, _, _, _, _ => by simp at h

theorem kE_pos : ∀ (fs os : List Int) (n m : Int), fs.length = os.length → kE fs os n = some m → ∀ f ∈ fs, 1 ≤ f
  | [], _, _, _, _, _ => by simp
  | f :: fs, o :: os, n, m, hl, hk => by
    rw [kE] at hk
    split at hk
    · cases hk
    rename_i ho
    intro x hx
    rcases List.mem_cons.1 hx with rfl | hx
    · omega
    · exact kE_pos fs os _ m (by simpa using hl) hk x hx
  | _ :: _, [], _, _, h, _ => by simp at h

theorem bad_app (xs ys : List Int) : (xs ++ ys).any badDim = (xs.any badDim || ys.any badDim) := List.any_append

/-- What a valid array's dimensions say of the cells at an index that is there. -/
theorem sizes {ds fs cs os : List Int} {N n : Int} (he : ds = fs ++ cs) (hs : sizeE ds = (N, 0)) (hl : fs.length = os.length) (hk : kE fs os 0 = some n) :
    ∃ p, sizeE cs = (p, 0) ∧ 0 ≤ p ∧ p ≤ 4096 ∧ (p = 0 ∨ (0 ≤ n ∧ n ≤ 4096 ∧ n * p + p ≤ N)) := by
  have hfp := kE_pos fs os 0 n hl hk
  unfold sizeE at hs
  split at hs
  · simp at hs
  rename_i h6
  split at hs
  · simp at hs
  rename_i hbad
  have hbad : ds.any badDim = false := by simpa using hbad
  rw [he, bad_app, Bool.or_eq_false_iff] at hbad
  have hlen : cs.length ≤ 6 := by
    have : ds.length = fs.length + cs.length := by rw [he, List.length_append]
    omega
  have gd : ∀ l : List Int, l.any badDim = false → ∀ d ∈ l, 0 ≤ d ∧ d ≤ 4096 := fun l h d hd => by
    have := List.any_eq_false.1 h d hd
    simp [badDim] at this
    omega
  by_cases hz : cs.any (fun x => 0 == x) = true
  · refine ⟨0, ?_, Int.le_refl _, by omega, .inl rfl⟩
    unfold sizeE
    rw [if_neg (by omega), if_neg (by simp [hbad.2]), if_pos hz]
  have hz : cs.any (fun x => 0 == x) = false := Bool.eq_false_iff.2 hz
  have gf : good fs := fun d hd => ⟨hfp d hd, (gd fs hbad.1 d hd).2⟩
  have gc : good cs := fun d hd => by
    have h1 := gd cs hbad.2 d hd
    have h2 := List.any_eq_false.1 hz d hd
    simp at h2
    omega
  have hzf : fs.any (fun x => 0 == x) = false := List.any_eq_false.2 fun d hd => by
    have := hfp d hd
    simp
    omega
  rw [if_neg (by rw [he, List.any_append, hzf, hz]; simp), he, prodE_app] at hs
  split at hs
  · rename_i h
    exact absurd (by rw [hs]) h
  rename_i hF
  have hF : (prodE fs 1).2 = 0 := by simpa using hF
  obtain ⟨F, hFF⟩ : ∃ F, prodE fs 1 = (F, 0) := ⟨(prodE fs 1).1, by rw [← hF]⟩
  rw [hFF] at hs
  simp only at hs
  have hFb := prodE_bound fs 1 hbad.1 (by omega) (by omega)
  rw [hFF] at hFb
  simp only at hFb
  obtain ⟨q, hq1, hq2, hq3⟩ := prodE_mul fs 1 1 F gf (by omega) (by omega) (by omega) (by simpa using hFF)
  have hF1 : 1 ≤ F := by omega
  have hn := kE_lt fs os 0 1 F n hl gf (by omega) (by omega) (by omega) hFF hk
  obtain ⟨p, p1, p2, p3⟩ := prodE_mul cs F 1 N gc hF1 (by omega) (by omega) (by simpa using hs)
  have hpb := prodE_bound cs 1 hbad.2 (by omega) (by omega)
  rw [p1] at hpb
  refine ⟨p, ?_, by omega, hpb.2, .inr ⟨hn.1, by omega, ?_⟩⟩
  · unfold sizeE
    rw [if_neg (by omega), if_neg (by simp [hbad.2]), if_neg (by rw [hz]; simp), p1]
  · have : (n + 1) * p ≤ F * p := Int.mul_le_mul_of_nonneg_right (by omega) (by omega)
    rw [Int.add_mul, Int.one_mul] at this
    omega

theorem checkE_ok {e : ByteArray} {ds xs : List Int} (h : checkE e ds xs = 0) : (!isI e && !isB e) = false ∧ sizeE ds = ((xs.length : Int), 0) ∧ xs.any (fun n => !validE e n) = false := by
  unfold checkE at h
  split at h
  · cases h
  rename_i h1
  split at h
  · rename_i h2; exact absurd h h2
  rename_i h2
  split at h
  · cases h
  rename_i h3
  split at h
  · cases h
  rename_i h4
  refine ⟨by simpa using h1, ?_, by simpa using h4⟩
  have h2 : (sizeE ds).2 = 0 := by simpa using h2
  have h3 : (xs.length : Int) = (sizeE ds).1 := by simpa using h3
  rw [h3, ← h2]

theorem checkE_mk {e : ByteArray} {ds xs : List Int} (h1 : (!isI e && !isB e) = false) (h2 : sizeE ds = ((xs.length : Int), 0)) (h3 : xs.any (fun n => !validE e n) = false) : checkE e ds xs = 0 := by
  unfold checkE
  rw [if_neg (by simp [h1]), h2, if_neg (by simp), if_neg (by simp), if_neg (by simp [h3])]

theorem any_part {p : Int → Bool} {xs : List Int} {a b : Nat} (h : xs.any p = false) : ((xs.drop a).take b).any p = false :=
  List.any_eq_false.2 fun x hx => List.any_eq_false.1 h x (List.mem_of_mem_drop (List.mem_of_mem_take hx))
end Go.Proofs.Ytoobaeebgnbpjaa.B9
