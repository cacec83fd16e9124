/- Plain facts for Euclid's algorithm with the Bezout pair: what one step keeps. No program is named here. -/
import Derived.Test.YtbpppeekfjfolaaIntPlain
namespace Go.Proofs.Ytbpppeekfjfolaa.IntEuclid
open Go.Proofs.Ytbpppeekfjfolaa.IntPlain

/-- Both are not on different sides of 0, and: both are not on the same side. -/
def Alike (x y : Int) : Prop := (0 ≤ x ∧ 0 ≤ y) ∨ (x ≤ 0 ∧ y ≤ 0)
def Apart (x y : Int) : Prop := (0 ≤ x ∧ y ≤ 0) ∨ (x ≤ 0 ∧ 0 ≤ y)
def Turns (r s x y : Int) : Prop := (Alike r s ∧ Apart x y) ∨ (Apart r s ∧ Alike x y)

theorem mul_signs (q x : Int) : (0 ≤ q → 0 ≤ x → 0 ≤ q * x) ∧ (0 ≤ q → x ≤ 0 → q * x ≤ 0) ∧ (q ≤ 0 → 0 ≤ x → q * x ≤ 0) ∧ (q ≤ 0 → x ≤ 0 → 0 ≤ q * x) :=
  ⟨Int.mul_nonneg, fun h k => Int.mul_nonpos_of_nonneg_of_nonpos h k, fun h k => Int.mul_nonpos_of_nonpos_of_nonneg h k, fun h k => Int.mul_nonneg_of_nonpos_of_nonpos h k⟩

theorem quo_signs (r s : Int) : (Alike r s → 0 ≤ r.tdiv s) ∧ (Apart r s → r.tdiv s ≤ 0) := by
  have hpos : ∀ x y : Int, 0 ≤ x → 0 ≤ y → 0 ≤ x.tdiv y := fun x y h k => Int.tdiv_nonneg h k
  refine ⟨fun h => ?_, fun h => ?_⟩
  · rcases h with ⟨h, k⟩ | ⟨h, k⟩
    · exact hpos r s h k
    · have := hpos (-r) (-s) (by omega) (by omega)
      rw [Int.neg_tdiv, Int.tdiv_neg] at this
      omega
  · rcases h with ⟨h, k⟩ | ⟨h, k⟩
    · have := hpos r (-s) h (by omega)
      rw [Int.tdiv_neg] at this
      omega
    · have := hpos (-r) s (by omega) k
      rw [Int.neg_tdiv] at this
      omega

theorem rem_signs (r s : Int) : (0 ≤ r → 0 ≤ r.tmod s) ∧ (r ≤ 0 → r.tmod s ≤ 0) := by
  refine ⟨fun h => Int.tmod_nonneg s h, fun h => ?_⟩
  have := Int.tmod_nonneg (a := -r) s (by omega)
  rw [Int.neg_tmod] at this
  omega

/-- One step: the signs stay as they are, and absolute values add up. -/
theorem turn_step (r s x y : Int) (h : Turns r s x y) : Turns s (r.tmod s) y (x - r.tdiv s * y) ∧ (x - r.tdiv s * y).natAbs = x.natAbs + (r.tdiv s).natAbs * y.natAbs := by
  have h1 := mul_signs (r.tdiv s) y
  have h2 := quo_signs r s
  have h3 := rem_signs r s
  rw [← Int.natAbs_mul]
  generalize r.tdiv s * y = p at *
  generalize r.tdiv s = q at *
  generalize r.tmod s = t at *
  unfold Turns Alike Apart at *
  omega

theorem rem_abs (r s : Int) : r.natAbs = (r.tdiv s).natAbs * s.natAbs + (r.tmod s).natAbs := by
  rw [Int.natAbs_tdiv, Int.natAbs_tmod]
  exact (Nat.div_add_mod' _ _).symm

theorem sum_step (X0 X1 Q R0 R1 R2 B : Nat) (h : X0 * R1 + X1 * R0 = B) (hr : R0 = Q * R1 + R2) : X1 * R2 + (X0 + Q * X1) * R1 = B := by
  rw [← h, hr, Nat.add_mul, Nat.mul_add]
  have : Q * X1 * R1 = X1 * (Q * R1) := by rw [Nat.mul_comm Q X1, Nat.mul_assoc]
  omega

/-- What the rounds keep. -/
structure Inv (a b r s x y u v : Int) : Prop where
  er : r = a * x + b * u
  es : s = a * y + b * v
  ex : x.natAbs * s.natAbs + y.natAbs * r.natAbs = b.natAbs
  eu : u.natAbs * s.natAbs + v.natAbs * r.natAbs = a.natAbs
  tx : Turns r s x y
  tu : Turns r s u v
  gc : Int.gcd r s = Int.gcd a b
  at_ : (x = 1 ∧ y = 0 ∧ u = 0 ∧ v = 1 ∧ r = a ∧ s = b) ∨ (x.natAbs ≤ y.natAbs ∧ u.natAbs ≤ a.natAbs + 1 ∧ s.natAbs < r.natAbs)

theorem inv_start (a b : Int) : Inv a b a b 1 0 0 1 := by
  refine ⟨by omega, by omega, by simp, by simp, ?_, ?_, rfl, Or.inl ⟨rfl, rfl, rfl, rfl, rfl, rfl⟩⟩
  · unfold Turns Alike Apart; omega
  · unfold Turns Alike Apart; omega

theorem gcd_step (x y : Int) : Int.gcd y (x.tmod y) = Int.gcd x y := by
  unfold Int.gcd
  rw [Int.natAbs_tmod, Nat.gcd_comm, ← Nat.gcd_rec, Nat.gcd_comm]

theorem lin_step (a b x y u v q : Int) : a * x + b * u - q * (a * y + b * v) = a * (x - q * y) + b * (u - q * v) := by
  rw [Int.mul_add, Int.mul_sub, Int.mul_sub, Int.mul_left_comm q a y, Int.mul_left_comm q b v]
  omega

theorem inv_step (a b r s x y u v : Int) (hs : s ≠ 0) (h : Inv a b r s x y u v) : Inv a b s (r.tmod s) y (x - r.tdiv s * y) v (u - r.tdiv s * v) := by
  obtain ⟨tx, ax⟩ := turn_step r s x y h.tx
  obtain ⟨tu, au⟩ := turn_step r s u v h.tu
  have hr := rem_abs r s
  have hlt : (r.tmod s).natAbs < s.natAbs := by rw [Int.natAbs_tmod]; exact Nat.mod_lt _ (by omega)
  refine ⟨h.es, ?_, ?_, ?_, tx, tu, by rw [gcd_step, h.gc], Or.inr ⟨?_, ?_, hlt⟩⟩
  · have e := Int.tdiv_mul_add_tmod r s
    rw [← lin_step, ← h.er, ← h.es]
    omega
  · rw [ax]; exact sum_step _ _ _ _ _ _ _ h.ex hr
  · rw [au]; exact sum_step _ _ _ _ _ _ _ h.eu hr
  · rw [ax]
    rcases h.at_ with ⟨rfl, rfl, _⟩ | ⟨_, _, h3⟩
    · simp
    · have hq : 1 ≤ (r.tdiv s).natAbs := by
        rw [Int.natAbs_tdiv]
        exact (Nat.one_le_div_iff (by omega)).2 (by omega)
      have := Nat.mul_le_mul_right y.natAbs hq
      omega
  · rcases h.at_ with ⟨_, _, _, rfl, _⟩ | ⟨_, _, h3⟩
    · omega
    · have h4 : v.natAbs * 1 ≤ v.natAbs * r.natAbs := Nat.mul_le_mul_left _ (by omega)
      have := h.eu
      omega

/-- How great the numbers of a step are. -/
theorem inv_range (a b r s x y u v M : Int) (hs : s ≠ 0) (h : Inv a b r s x y u v) (ha : (a.natAbs : Int) ≤ M) (hb : (b.natAbs : Int) ≤ M) :
    ((r.tdiv s * y).natAbs : Int) ≤ M ∧ ((x - r.tdiv s * y).natAbs : Int) ≤ M ∧ ((r.tdiv s * v).natAbs : Int) ≤ M ∧ ((u - r.tdiv s * v).natAbs : Int) ≤ M := by
  have h' := inv_step a b r s x y u v hs h
  obtain ⟨_, ax⟩ := turn_step r s x y h.tx
  obtain ⟨_, au⟩ := turn_step r s u v h.tu
  have e1 := h'.ex
  have e2 := h'.eu
  have k1 : (x - r.tdiv s * y).natAbs * 1 ≤ (x - r.tdiv s * y).natAbs * s.natAbs := Nat.mul_le_mul_left _ (by omega)
  have k2 : (u - r.tdiv s * v).natAbs * 1 ≤ (u - r.tdiv s * v).natAbs * s.natAbs := Nat.mul_le_mul_left _ (by omega)
  rw [Int.natAbs_mul, Int.natAbs_mul]
  omega

/-- What the last round leaves. -/
theorem inv_last (a b r x y u v : Int) (hb : b ≠ 0) (h : Inv a b r 0 x y u v) : (Int.gcd a b : Nat) = r.natAbs ∧ a * (x * r.sign) + b * (u * r.sign) = (r.natAbs : Nat) ∧ x.natAbs * r.natAbs ≤ b.natAbs ∧ u.natAbs ≤ a.natAbs + 1 ∧ 0 < r.natAbs := by
  have hg : Int.gcd a b = r.natAbs := by rw [← h.gc, Int.gcd_zero_right]
  have hr : 0 < r.natAbs := by
    rw [← hg]
    exact Nat.pos_of_ne_zero fun h => hb (Int.gcd_eq_zero_iff.1 h).2
  refine ⟨hg, ?_, ?_, ?_, hr⟩
  · rw [← Int.mul_assoc, ← Int.mul_assoc, ← Int.add_mul, ← h.er]
    exact Int.mul_sign_self r
  · rcases h.at_ with ⟨_, _, _, _, _, h6⟩ | ⟨h1, _, _⟩
    · exact absurd h6.symm hb
    · have := h.ex
      have := Nat.mul_le_mul_right r.natAbs h1
      omega
  · rcases h.at_ with ⟨_, _, _, _, _, h6⟩ | ⟨_, h2, _⟩
    · exact absurd h6.symm hb
    · exact h2

end Go.Proofs.Ytbpppeekfjfolaa.IntEuclid
