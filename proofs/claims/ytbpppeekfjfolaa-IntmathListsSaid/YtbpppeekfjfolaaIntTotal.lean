/- The long numbers of intmath as integers: what adding, reading and summing come to. -/
import Derived.Test.YtbpppeekfjfolaaIntWide
namespace Go.Proofs.Ytbpppeekfjfolaa.IntTotal
open Go.RowKit Go.Proofs.Ytbpppeekfjfolaa.IntPlain Go.Proofs.Ytbpppeekfjfolaa.IntWalks Go.Proofs.Ytbpppeekfjfolaa.IntWide

/-- Three words stand for an integer, up to multiples of 2^192. -/
def Rep (x y z : Nat) (S : Int) : Prop := Word x ∧ Word y ∧ Word z ∧ ∃ K : Int, (x : Int) + 18446744073709551616 * y + 340282366920938463463374607431768211456 * z = S + 6277101735386680763835789423207666416102355444464034512896 * K

theorem rep_zero : Rep 0 0 0 0 := ⟨by unfold Word; omega, by unfold Word; omega, by unfold Word; omega, 0, by omega⟩

theorem step_eq (x p c : Nat) : sumOf x p c + 18446744073709551616 * carryOf x p c = x + p + c := by
  unfold sumOf carryOf; exact Nat.mod_add_div _ _

theorem halves (x y : Nat) : loOf x y + 18446744073709551616 * hiOf x y = x * y := by
  unfold loOf hiOf; exact Nat.mod_add_div _ _

theorem mul_same (a c : Int) (h : (0 ≤ a ∧ 0 ≤ c) ∨ (a ≤ 0 ∧ c ≤ 0)) : a * c = ((a.natAbs * c.natAbs : Nat) : Int) := by
  rw [Int.natCast_mul]
  rcases h with ⟨h1, h2⟩ | ⟨h1, h2⟩
  · rw [Int.natAbs_of_nonneg h1, Int.natAbs_of_nonneg h2]
  · rw [Int.ofNat_natAbs_of_nonpos h1, Int.ofNat_natAbs_of_nonpos h2, Int.neg_mul_neg]

theorem mul_other (a c : Int) (h : (a < 0 ∧ 0 < c) ∨ (0 < a ∧ c < 0)) : a * c = -((a.natAbs * c.natAbs : Nat) : Int) := by
  rw [Int.natCast_mul]
  rcases h with ⟨h1, h2⟩ | ⟨h1, h2⟩
  · rw [Int.ofNat_natAbs_of_nonpos (by omega), Int.natAbs_of_nonneg (by omega), Int.neg_mul, Int.neg_neg]
  · rw [Int.natAbs_of_nonneg (by omega), Int.ofNat_natAbs_of_nonpos (by omega), Int.mul_neg, Int.neg_neg]

theorem rep_pos (x y z : Nat) (S a c : Int) (h : Rep x y z S) (hs : (0 ≤ a ∧ 0 ≤ c) ∨ (a ≤ 0 ∧ c ≤ 0)) :
    Rep (sumOf x (loOf a.natAbs c.natAbs) 0) (sumOf y (hiOf a.natAbs c.natAbs) (carryOf x (loOf a.natAbs c.natAbs) 0)) (sumOf z 0 (carryOf y (hiOf a.natAbs c.natAbs) (carryOf x (loOf a.natAbs c.natAbs) 0))) (S + a * c) := by
  obtain ⟨_, _, _, K, hK⟩ := h
  have h0 := halves a.natAbs c.natAbs
  have s0 := step_eq x (loOf a.natAbs c.natAbs) 0
  have s1 := step_eq y (hiOf a.natAbs c.natAbs) (carryOf x (loOf a.natAbs c.natAbs) 0)
  have s2 := step_eq z 0 (carryOf y (hiOf a.natAbs c.natAbs) (carryOf x (loOf a.natAbs c.natAbs) 0))
  refine ⟨sum_word _ _ _, sum_word _ _ _, sum_word _ _ _, K - carryOf z 0 (carryOf y (hiOf a.natAbs c.natAbs) (carryOf x (loOf a.natAbs c.natAbs) 0)), ?_⟩
  rw [mul_same a c hs, ← h0]
  omega

theorem rep_neg (x y z : Nat) (S a c : Int) (h : Rep x y z S) (ha : a.natAbs ≤ 9223372036854775807) (hc : c.natAbs ≤ 9223372036854775807) (hs : (a < 0 ∧ 0 < c) ∨ (0 < a ∧ c < 0)) :
    Rep (sumOf x (compl (loOf a.natAbs c.natAbs)) 1) (sumOf y (compl (hiOf a.natAbs c.natAbs)) (carryOf x (compl (loOf a.natAbs c.natAbs)) 1)) (sumOf z 18446744073709551615 (carryOf y (compl (hiOf a.natAbs c.natAbs)) (carryOf x (compl (loOf a.natAbs c.natAbs)) 1))) (S + a * c) := by
  obtain ⟨_, _, _, K, hK⟩ := h
  have h0 := halves a.natAbs c.natAbs
  have hl := lo_lt a.natAbs c.natAbs
  have hh := hi_lt a.natAbs c.natAbs ha hc
  have s0 := step_eq x (compl (loOf a.natAbs c.natAbs)) 1
  have s1 := step_eq y (compl (hiOf a.natAbs c.natAbs)) (carryOf x (compl (loOf a.natAbs c.natAbs)) 1)
  have s2 := step_eq z 18446744073709551615 (carryOf y (compl (hiOf a.natAbs c.natAbs)) (carryOf x (compl (loOf a.natAbs c.natAbs)) 1))
  refine ⟨sum_word _ _ _, sum_word _ _ _, sum_word _ _ _, K + 1 - carryOf z 18446744073709551615 (carryOf y (compl (hiOf a.natAbs c.natAbs)) (carryOf x (compl (loOf a.natAbs c.natAbs)) 1)), ?_⟩
  rw [mul_other a c hs, ← h0]
  have e1 : compl (loOf a.natAbs c.natAbs) + loOf a.natAbs c.natAbs = 18446744073709551615 := by unfold compl; unfold Word at hl; omega
  have e2 : compl (hiOf a.natAbs c.natAbs) + hiOf a.natAbs c.natAbs = 18446744073709551615 := by unfold compl; unfold Word at hh; omega
  omega

/-- What 'add' does to the three words at b: they stand for the sum. -/
def Added (b : Nat) (S : Int) (w : World) (e : Ending) (w' : World) : Prop :=
  e = .returned (.tuple #[]) ∧ ∃ x y z : Nat, Rep x y z S ∧ ∃ o, w' = ((((w.setCell ⟨b, 0, none⟩ (.int .u64 x)).setCell ⟨b, 1, none⟩ (.int .u64 y)).setCell ⟨b, 2, none⟩ (.int .u64 z)).alloc o).drew.drew.drew

theorem add_any (b : Nat) (x y z : Nat) (S : Int) (w : World) (a c : Int) (hb : b < w.heap.size) (hr : Rep x y z S) (ha : inR a = true) (hc : inR c = true)
    (h0 : w.cell? ⟨b, 0, none⟩ = some (.int .u64 x)) (h1 : w.cell? ⟨b, 1, none⟩ = some (.int .u64 y)) (h2 : w.cell? ⟨b, 2, none⟩ = some (.int .u64 z))
    (f0 : w.frozen? ⟨b, 0, none⟩ = false) (f1 : w.frozen? ⟨b, 1, none⟩ = false) (f2 : w.frozen? ⟨b, 2, none⟩ = false) :
    Calls Try.prog 39 #[.pointer (some ⟨b, 0, none⟩), .int .i64 a, .int .i64 c] w (Added b (S + a * c) w) := by
  have ha' := (inR_iff a).1 ha
  have hc' := (inR_iff c).1 hc
  by_cases hn : (a < 0 ∧ 0 < c) ∨ (0 < a ∧ c < 0)
  · have es : a.sign * c.sign = -1 := by
      rcases hn with ⟨p, q⟩ | ⟨p, q⟩
      · rw [Int.sign_eq_neg_one_of_neg p, Int.sign_eq_one_of_pos q]; rfl
      · rw [Int.sign_eq_one_of_pos p, Int.sign_eq_neg_one_of_neg q]; rfl
    exact (add_neg b x y z w a c hb hr.1 hr.2.1 ha' hc' (by omega) (by omega) h0 h1 h2 f0 f1 f2).mono fun e w' ⟨he, o, hw⟩ => ⟨he, _, _, _, rep_neg x y z S a c hr (by omega) (by omega) hn, o, hw⟩
  · have hp : (0 ≤ a ∧ 0 ≤ c) ∨ (a ≤ 0 ∧ c ≤ 0) := by omega
    have es : 0 ≤ a.sign * c.sign ∧ a.sign * c.sign ≤ 1 := by
      rcases Int.lt_trichotomy a 0 with p | p | p <;> rcases Int.lt_trichotomy c 0 with q | q | q <;> first | omega | simp [Int.sign_eq_neg_one_of_neg, Int.sign_eq_one_of_pos, p, q]
    exact (add_pos b x y z w a c hb hr.1 hr.2.1 ha' hc' es.1 es.2 h0 h1 h2 f0 f1 f2).mono fun e w' ⟨he, o, hw⟩ => ⟨he, _, _, _, rep_pos x y z S a c hr hp, o, hw⟩

end Go.Proofs.Ytbpppeekfjfolaa.IntTotal
