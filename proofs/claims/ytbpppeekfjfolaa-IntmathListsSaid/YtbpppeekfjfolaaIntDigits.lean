/- Numbers in the base 2^21: what digits stand for, products of digits, carrying, and the number again. -/
import Derived.Test.YtbpppeekfjfolaaIntPlain
namespace Go.Proofs.Ytbpppeekfjfolaa.IntDigits
open Go.Proofs.Ytbpppeekfjfolaa.IntPlain

def val : List Int → Int
  | [] => 0
  | c :: cs => c + 2097152 * val cs

def pw : Nat → Int
  | 0 => 1
  | k + 1 => 2097152 * pw k

theorem pw_pos (k : Nat) : 1 ≤ pw k := by
  induction k with
  | zero => exact Int.le_refl 1
  | succ k ih => unfold pw; omega

theorem pw_big (k : Nat) (h : 1 ≤ k) : 2097152 ≤ pw k := by
  cases k with
  | zero => omega
  | succ k => have := pw_pos k; unfold pw; omega

theorem pw_add (j k : Nat) : pw (j + k) = pw j * pw k := by
  induction j with
  | zero => simp [pw]
  | succ j ih => rw [Nat.succ_add]; simp only [pw]; rw [ih, Int.mul_assoc]

theorem val_set : ∀ (cs : List Int) (i : Nat) (v : Int), i < cs.length → val (cs.set i (cs.getD i 0 + v)) = val cs + v * pw i
  | [], _, _, h => by simp at h
  | c :: cs, 0, v, _ => by simp [val, pw]; omega
  | c :: cs, i + 1, v, h => by
    have ih := val_set cs i v (by simpa using h)
    simp only [List.set_cons_succ, List.getD_cons_succ, val, pw]
    rw [ih, Int.mul_add, ← Int.add_assoc, ← Int.mul_assoc, ← Int.mul_assoc, Int.mul_comm 2097152 v]

theorem val_take : ∀ (cs : List Int) (k : Nat), k < cs.length → val (cs.take (k + 1)) = val (cs.take k) + cs.getD k 0 * pw k
  | [], _, h => by simp at h
  | c :: cs, 0, _ => by simp [val, pw]
  | c :: cs, k + 1, h => by
    have ih := val_take cs k (by simpa using h)
    rw [List.take_succ_cons, List.take_succ_cons]
    simp only [List.getD_cons_succ, val, pw]
    rw [ih, Int.mul_add, ← Int.add_assoc, ← Int.mul_assoc, ← Int.mul_assoc, Int.mul_comm 2097152 (cs.getD k 0)]

theorem val_drop (cs : List Int) (k : Nat) (h : k < cs.length) : val (cs.drop k) = cs.getD k 0 + 2097152 * val (cs.drop (k + 1)) := by
  rw [List.drop_eq_getElem_cons h]
  simp [val, List.getD, h]

theorem val_split : ∀ (cs : List Int) (k : Nat), val cs = val (cs.take k) + pw k * val (cs.drop k)
  | cs, 0 => by simp [val, pw]
  | [], k + 1 => by simp [val]
  | c :: cs, k + 1 => by
    have ih := val_split cs k
    rw [List.take_succ_cons, List.drop_succ_cons]
    simp only [val, pw]
    rw [ih, Int.mul_add, ← Int.add_assoc, ← Int.mul_assoc]

theorem low_range (cs : List Int) (k : Nat) (hk : k ≤ cs.length) (h : ∀ i, i < k → 0 ≤ cs.getD i 0 ∧ cs.getD i 0 < 2097152) : 0 ≤ val (cs.take k) ∧ val (cs.take k) < pw k := by
  induction k with
  | zero => simp [val, pw]
  | succ k ih =>
    obtain ⟨h1, h2⟩ := ih (by omega) fun i hi => h i (by omega)
    obtain ⟨h3, h4⟩ := h k (by omega)
    rw [val_take cs k (by omega)]
    have p := pw_pos k
    have m1 : 0 ≤ cs.getD k 0 * pw k := Int.mul_nonneg h3 (by omega)
    have m2 : cs.getD k 0 * pw k ≤ 2097151 * pw k := Int.mul_le_mul_of_nonneg_right (by omega) (by omega)
    simp only [pw]
    omega

theorem horner_out (cs : List Int) (k : Nat) (hk1 : 1 ≤ k) (hk : k ≤ cs.length) (h : ∀ i, i < k → 0 ≤ cs.getD i 0 ∧ cs.getD i 0 < 2097152)
    (hn : 2199023255552 < val (cs.drop k) ∨ val (cs.drop k) < -2199023255552) : inR (val cs) = false := by
  obtain ⟨l1, l2⟩ := low_range cs k hk h
  have p := pw_big k hk1
  have e := val_split cs k
  generalize val (cs.drop k) = n at *
  generalize val (cs.take k) = t at *
  generalize pw k = q at *
  have hout : ¬ (-4611686018427387904 ≤ val cs ∧ val cs ≤ 4611686018427387904) := by
    rcases hn with hn | hn
    · have m : 2097152 * n ≤ q * n := Int.mul_le_mul_of_nonneg_right p (by omega)
      omega
    · have m : q * (n + 1) ≤ q * (-2199023255552) := Int.mul_le_mul_of_nonneg_left (by omega) (by omega)
      rw [Int.mul_add, Int.mul_one] at m
      omega
  cases hi : inR (val cs)
  · rfl
  · exact absurd ((inR_iff _).1 hi) hout

/-- The three digits of a number, with its sign. -/
def dg (n : Int) : List Int := [n.tmod 2097152, (n.tdiv 2097152).tmod 2097152, (n.tdiv 2097152).tdiv 2097152]

theorem val_dg (n : Int) : val (dg n) = n := by
  have h1 := Int.tdiv_mul_add_tmod n 2097152
  have h2 := Int.tdiv_mul_add_tmod (n.tdiv 2097152) 2097152
  simp only [dg, val]
  omega

def Small (n : Int) : Prop := -2097152 ≤ n ∧ n ≤ 2097152

theorem dg_small (n : Int) (h : inR n = true) (i : Nat) : Small ((dg n).getD i 0) := by
  have hn := (inR_iff n).1 h
  have a1 := Int.lt_tmod_of_pos n (b := 2097152) (by decide)
  have a2 := Int.tmod_lt_of_pos n (b := 2097152) (by decide)
  have b1 := Int.lt_tmod_of_pos (n.tdiv 2097152) (b := 2097152) (by decide)
  have b2 := Int.tmod_lt_of_pos (n.tdiv 2097152) (b := 2097152) (by decide)
  have c1 : (n.tdiv 2097152).natAbs = n.natAbs / 2097152 := Int.natAbs_tdiv n 2097152
  have c2 : ((n.tdiv 2097152).tdiv 2097152).natAbs = (n.tdiv 2097152).natAbs / 2097152 := Int.natAbs_tdiv (n.tdiv 2097152) 2097152
  unfold Small
  match i with
  | 0 => simp [dg]; omega
  | 1 => simp [dg]; omega
  | 2 => simp [dg]; omega
  | i + 3 => simp [dg]

theorem small_mul (x y : Int) (hx : Small x) (hy : Small y) : -4398046511104 ≤ x * y ∧ x * y ≤ 4398046511104 := by
  have h : (x * y).natAbs ≤ 2097152 * 2097152 := by
    rw [Int.natAbs_mul]
    unfold Small at hx hy
    exact Nat.mul_le_mul (by omega) (by omega)
  omega

/-- No cell is greater than m products of digits. -/
def Bound (cs : List Int) (m : Nat) : Prop := ∀ i, -(4398046511104 * (m : Int)) ≤ cs.getD i 0 ∧ cs.getD i 0 ≤ 4398046511104 * (m : Int)

theorem getD_set (cs : List Int) (i j : Nat) (v : Int) (h : i < cs.length) : (cs.set i v).getD j 0 = if i = j then v else cs.getD j 0 := by
  simp only [List.getD, List.getElem?_set]
  by_cases e : i = j
  · subst e; simp [h]
  · simp [e]

theorem bound_step (cs : List Int) (m t : Nat) (x y : Int) (ht : t < cs.length) (h : Bound cs m) (hx : Small x) (hy : Small y) : Bound (cs.set t (cs.getD t 0 + x * y)) (m + 1) := by
  intro i
  have hm := small_mul x y hx hy
  have h1 := h i
  have h2 := h t
  rw [getD_set cs t i _ ht]
  split <;> omega

/-- The value while the products of the digits of two numbers are added: j rows, and k places of the next one. -/
def acc (P : Int) (xs ys : List Int) (j k : Nat) : Int := P + val (xs.take j) * val ys + xs.getD j 0 * pw j * val (ys.take k)

theorem acc_step (P : Int) (xs ys : List Int) (j k : Nat) (hk : k < ys.length) : acc P xs ys j (k + 1) = acc P xs ys j k + xs.getD j 0 * ys.getD k 0 * pw (j + k) := by
  unfold acc
  rw [val_take ys k hk, Int.mul_add, ← Int.add_assoc, pw_add]
  congr 1
  rw [Int.mul_assoc, Int.mul_assoc, Int.mul_left_comm (pw j)]

theorem acc_row (P : Int) (xs ys : List Int) (j : Nat) (hj : j < xs.length) : acc P xs ys j ys.length = acc P xs ys (j + 1) 0 := by
  unfold acc
  rw [val_take xs j hj, List.take_length, List.take_zero, Int.add_mul]
  simp [val, Int.add_assoc]

theorem acc_start (P : Int) (xs ys : List Int) : acc P xs ys 0 0 = P := by
  simp [acc, val]

theorem acc_end (P : Int) (xs ys : List Int) : acc P xs ys xs.length 0 = P + val xs * val ys := by
  simp [acc, val]

theorem dg_end (P a b : Int) : acc P (dg a) (dg b) 3 0 = P + a * b := by
  have h := acc_end P (dg a) (dg b)
  rw [val_dg, val_dg] at h
  exact h

theorem dg_row (P a b : Int) (j : Nat) (hj : j < 3) : acc P (dg a) (dg b) j 3 = acc P (dg a) (dg b) (j + 1) 0 := acc_row P (dg a) (dg b) j (by simpa [dg] using hj)

theorem dg_step (P a b : Int) (j k : Nat) (hk : k < 3) : acc P (dg a) (dg b) j (k + 1) = acc P (dg a) (dg b) j k + (dg a).getD j 0 * (dg b).getD k 0 * pw (j + k) := acc_step P (dg a) (dg b) j k (by simpa [dg] using hk)

/-- The sum of the first k products of two lists. -/
def dotTo (xs ys : List Int) : Nat → Int
  | 0 => 0
  | k + 1 => dotTo xs ys k + xs.getD k 0 * ys.getD k 0

/-- Carrying: the first i cells are digits, and no cell is great. -/
def Norm (cs : List Int) (i : Nat) : Prop := (∀ t, t < i → 0 ≤ cs.getD t 0 ∧ cs.getD t 0 < 2097152) ∧ (-9007199254740992 ≤ cs.getD i 0 ∧ cs.getD i 0 ≤ 9007199254740992) ∧ ∀ t, i < t → -4503599627370496 ≤ cs.getD t 0 ∧ cs.getD t 0 ≤ 4503599627370496

theorem norm_start (cs : List Int) (m : Nat) (hm : m ≤ 540) (h : Bound cs m) : Norm cs 0 := by
  refine ⟨fun t ht => by omega, ?_, fun t _ => ?_⟩
  · have := h 0; omega
  · have := h t; omega

theorem floor_eq (a : Int) : floorOf a 2097152 = a / 2097152 := by
  have h := trunc_pos a 2097152 (by decide)
  unfold floorOf
  have h3 := h.2.2.2
  split <;> omega

theorem carry_val (cs : List Int) (i : Nat) (q : Int) (h : i + 1 < cs.length) : val ((cs.set i (cs.getD i 0 - q * 2097152)).set (i + 1) (cs.getD (i + 1) 0 + q)) = val cs := by
  have e : (cs.set i (cs.getD i 0 - q * 2097152)).getD (i + 1) 0 = cs.getD (i + 1) 0 := by rw [getD_set cs i (i + 1) _ (by omega), if_neg (by omega)]
  have h1 := val_set (cs.set i (cs.getD i 0 - q * 2097152)) (i + 1) q (by simpa using h)
  rw [e] at h1
  rw [h1, show cs.getD i 0 - q * 2097152 = cs.getD i 0 + -(q * 2097152) from rfl, val_set cs i _ (by omega)]
  simp only [pw]
  rw [Int.neg_mul, Int.mul_assoc]
  omega

theorem carry_norm (cs : List Int) (i : Nat) (h : i + 1 < cs.length) (hn : Norm cs i) : Norm ((cs.set i (cs.getD i 0 - cs.getD i 0 / 2097152 * 2097152)).set (i + 1) (cs.getD (i + 1) 0 + cs.getD i 0 / 2097152)) (i + 1) := by
  obtain ⟨h1, h2, h3⟩ := hn
  refine ⟨fun t ht => ?_, ?_, fun t ht => ?_⟩
  · rw [getD_set _ _ _ _ (by simpa using h), if_neg (by omega), getD_set _ _ _ _ (by omega)]
    split
    · omega
    · exact h1 t (by omega)
  · rw [getD_set _ _ _ _ (by simpa using h), if_pos rfl]
    have := h3 (i + 1) (by omega)
    omega
  · rw [getD_set _ _ _ _ (by simpa using h), if_neg (by omega), getD_set _ _ _ _ (by omega), if_neg (by omega)]
    exact h3 t (by omega)

end Go.Proofs.Ytbpppeekfjfolaa.IntDigits
