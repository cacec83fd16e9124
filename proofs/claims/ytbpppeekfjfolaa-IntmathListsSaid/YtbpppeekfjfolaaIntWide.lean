/- The long numbers of intmath: adding a product, and reading the number. -/
import Derived.Test.YtbpppeekfjfolaaIntWalks
import Derived.Test.YtbpppeekfjfolaaShelf
import Derived.BigRegion
import Derived.StillTailTactics
import Derived.Laws.BitsAllLaws
namespace Go.Proofs.Ytbpppeekfjfolaa.IntWide
open Go.RowKit Go.Proofs.Ytbpppeekfjfolaa.IntPlain Go.Proofs.Ytbpppeekfjfolaa.IntWalks

/-- The two halves of a product, and what a sum with carry leaves and hands on. -/
def hiOf (x y : Nat) : Nat := x * y / 18446744073709551616
def loOf (x y : Nat) : Nat := x * y % 18446744073709551616
def sumOf (x y c : Nat) : Nat := (x + y + c) % 18446744073709551616
def carryOf (x y c : Nat) : Nat := (x + y + c) / 18446744073709551616

/-- A number that fits into 64 bits. -/
def Word (x : Nat) : Prop := x < 18446744073709551616
theorem carry_one (x y c : Nat) (hx : Word x) (hy : Word y) (hc : c ≤ 1) : carryOf x y c ≤ 1 := by unfold carryOf Word at *; omega
theorem sum_word (x y c : Nat) : Word (sumOf x y c) := by unfold sumOf Word; omega
theorem lo_lt (x y : Nat) : Word (loOf x y) := by unfold loOf Word; omega
theorem hi_lt (x y : Nat) (hx : x ≤ 9223372036854775807) (hy : y ≤ 9223372036854775807) : Word (hiOf x y) := by
  unfold hiOf Word
  have : x * y ≤ 9223372036854775807 * 9223372036854775807 := Nat.mul_le_mul hx hy
  omega

/-- The complement of a word. -/
def compl (x : Nat) : Nat := 18446744073709551615 - x
theorem compl_word (x : Nat) : Word (compl x) := by unfold compl Word; omega
theorem not_word (x : Nat) (hx : Word x) : bits .xor .u64 IntKind.u64.max (x : Int) = ((compl x : Nat) : Int) := by
  have e : (IntKind.u64.max : Int) = ((18446744073709551615 : Nat) : Int) := by decide
  rw [e, u64_xor_nat _ _ (by omega) hx]
  congr 1
  apply Nat.eq_of_testBit_eq
  intro i
  have h1 : 18446744073709551615 = 2 ^ 64 - 1 := rfl
  have h2 : compl x = 2 ^ 64 - (x + 1) := by unfold compl; omega
  rw [h2, Nat.testBit_xor, Nat.testBit_two_pow_sub_succ hx, h1, Nat.testBit_two_pow_sub_one]
  by_cases hi : i < 64
  · simp [hi]
  · have : x.testBit i = false := Nat.testBit_lt_two_pow (Nat.lt_of_lt_of_le hx (Nat.pow_le_pow_right (by omega) (by omega) : 2 ^ 64 ≤ 2 ^ i))
    simp [hi, this]

theorem add64_run (x y c : Nat) (hc : c ≤ 1) (w : World) :
    (callFunc 51 #[.int .u64 x, .int .u64 y, .int .u64 c]).run Try.prog w = .ok (.value (.tuple #[.int .u64 (sumOf x y c : Nat), .int .u64 (carryOf x y c : Nat)])) w := by
  rw [run_callFunc_extern Try.func51 (by kernel_rfl) (by kernel_rfl) (by kernel_rfl) (e := add64Entry) (by kernel_rfl), run_add64 x y c (by omega) (by omega) (by omega) (by omega)]
  simp only [Result.andThen, sumOf, carryOf]
  congr 5 <;> omega

theorem mul64_any (x y : Nat) (hx : x ≤ 9223372036854775807) (hy : y ≤ 9223372036854775807) (w : World) :
    Calls Try.prog 50 #[.int .u64 x, .int .u64 y] w fun e w' => e = .returned (.tuple #[.int .u64 (hiOf x y : Nat), .int .u64 (loOf x y : Nat)]) ∧ w = w' :=
  (bits_Mul64 x y (by omega) (by omega) w).mono fun _ _ ⟨he, hw⟩ => ⟨he, hw.symm⟩

theorem abs_any (n : Int) (w : World) (h1 : -9223372036854775807 ≤ n) (h2 : n ≤ 9223372036854775807) : Calls Try.prog 43 #[.int .i64 n] w fun e w' => e = .returned (.int .i64 (n.natAbs : Nat)) ∧ w = w' := by
  by_cases h : 0 ≤ n
  · exact (abs_nonneg n w h h2).mono fun _ _ ⟨he, hw⟩ => ⟨by rw [he]; congr 2; omega, hw⟩
  · exact (abs_neg n w (by omega) h1).mono fun _ _ ⟨he, hw⟩ => ⟨by rw [he]; congr 2; omega, hw⟩

theorem sign_any (n : Int) (w : World) : Calls Try.prog 44 #[.int .i64 n] w fun e w' => e = .returned (.int .i64 n.sign) ∧ w = w' := by
  by_cases h1 : n < 0
  · rw [Int.sign_eq_neg_one_of_neg h1]; exact sign_neg n w h1
  · by_cases h2 : 0 < n
    · rw [Int.sign_eq_one_of_pos h2]; exact sign_pos n w h2
    · obtain rfl : n = 0 := by omega
      exact sign_zero 0 w (by omega) (by omega)

set_option maxHeartbeats 400000 in
theorem add_pos (b : Nat) (x y z : Nat) (w : World) (a c : Int) (hb : b < w.heap.size) (hx : Word x) (hy : Word y) (ha : -4611686018427387904 ≤ a ∧ a ≤ 4611686018427387904) (hc : -4611686018427387904 ≤ c ∧ c ≤ 4611686018427387904)
    (hs : 0 ≤ a.sign * c.sign) (hs2 : a.sign * c.sign ≤ 1)
    (h0 : w.cell? ⟨b, 0, none⟩ = some (.int .u64 x)) (h1 : w.cell? ⟨b, 1, none⟩ = some (.int .u64 y)) (h2 : w.cell? ⟨b, 2, none⟩ = some (.int .u64 z))
    (f0 : w.frozen? ⟨b, 0, none⟩ = false) (f1 : w.frozen? ⟨b, 1, none⟩ = false) (f2 : w.frozen? ⟨b, 2, none⟩ = false) :
    Calls Try.prog 39 #[.pointer (some ⟨b, 0, none⟩), .int .i64 a, .int .i64 c] w fun e w' => e = .returned (.tuple #[]) ∧ ∃ o, w' = ((((w.setCell ⟨b, 0, none⟩ (.int .u64 (sumOf x (loOf a.natAbs c.natAbs) 0 : Nat))).setCell ⟨b, 1, none⟩ (.int .u64 (sumOf y (hiOf a.natAbs c.natAbs) (carryOf x (loOf a.natAbs c.natAbs) 0) : Nat))).setCell ⟨b, 2, none⟩ (.int .u64 (sumOf z 0 (carryOf y (hiOf a.natAbs c.natAbs) (carryOf x (loOf a.natAbs c.natAbs) 0)) : Nat))).alloc o).drew.drew.drew := by
  go_enter Try.func39, Try.ntmps39
  go_wp2_with (fail)
  refine (abs_any a _ (by omega) (by omega)).mono ?_
  rintro e w' ⟨rfl, rfl⟩
  go_wp2_with (fail)
  refine (abs_any c _ (by omega) (by omega)).mono ?_
  rintro e w' ⟨rfl, rfl⟩
  go_wp2_with (fail)
  refine (mul64_any _ _ (by omega) (by omega) _).mono ?_
  rintro e w' ⟨rfl, rfl⟩
  go_wp2_with (fail)
  refine (sign_any a _).mono ?_
  rintro e w' ⟨rfl, rfl⟩
  go_wp2_with (fail)
  refine (sign_any c _).mono ?_
  rintro e w' ⟨rfl, rfl⟩
  go_wp2_with (fail)
  have hl := lo_lt a.natAbs c.natAbs
  have hh := hi_lt a.natAbs c.natAbs (by omega) (by omega)
  generalize hL : loOf a.natAbs c.natAbs = l at *
  generalize hH : hiOf a.natAbs c.natAbs = h at *
  have HL := Lib.hid hL
  have HH := Lib.hid hH
  clear hL hH
  have hadd0 : ∀ w, (callFunc 51 #[.int .u64 x, .int .u64 l, .int .u64 0]).run Try.prog w = .ok (.value (.tuple #[.int .u64 (sumOf x l 0 : Nat), .int .u64 (carryOf x l 0 : Nat)])) w := add64_run x l 0 (by omega)
  have hadd1 : ∀ w, (callFunc 51 #[.int .u64 y, .int .u64 h, .int .u64 (carryOf x l 0 : Nat)]).run Try.prog w = .ok (.value (.tuple #[.int .u64 (sumOf y h (carryOf x l 0) : Nat), .int .u64 (carryOf y h (carryOf x l 0) : Nat)])) w := add64_run y h (carryOf x l 0) (carry_one _ _ _ hx hl (by omega))
  have hadd2 : ∀ w, (callFunc 51 #[.int .u64 z, .int .u64 0, .int .u64 (carryOf y h (carryOf x l 0) : Nat)]).run Try.prog w = .ok (.value (.tuple #[.int .u64 (sumOf z 0 (carryOf y h (carryOf x l 0)) : Nat), .int .u64 (carryOf z 0 (carryOf y h (carryOf x l 0)) : Nat)])) w := add64_run z 0 (carryOf y h (carryOf x l 0)) (carry_one _ _ _ hy hh (carry_one _ _ _ hx hl (by omega)))
  refine wp_loop_rounds 4 ?_
  rw [rounds_succ]
  go_wp2_with (fail)
  go_region
  go_wp2_with (fail)
  rw [rounds_succ]
  go_wp2_with (fail)
  go_region
  go_wp2_with (fail)
  rw [rounds_succ]
  go_wp2_with (fail)
  go_region
  go_wp2_with (fail)
  rw [rounds_succ]
  go_wp2_with (fail)
  go_end0
  exact ⟨rfl, _, by rw [HL.out, HH.out]⟩

set_option maxHeartbeats 400000 in
theorem add_neg (b : Nat) (x y z : Nat) (w : World) (a c : Int) (hb : b < w.heap.size) (hx : Word x) (hy : Word y) (ha : -4611686018427387904 ≤ a ∧ a ≤ 4611686018427387904) (hc : -4611686018427387904 ≤ c ∧ c ≤ 4611686018427387904)
    (hs : a.sign * c.sign < 0) (hs2 : -1 ≤ a.sign * c.sign)
    (h0 : w.cell? ⟨b, 0, none⟩ = some (.int .u64 x)) (h1 : w.cell? ⟨b, 1, none⟩ = some (.int .u64 y)) (h2 : w.cell? ⟨b, 2, none⟩ = some (.int .u64 z))
    (f0 : w.frozen? ⟨b, 0, none⟩ = false) (f1 : w.frozen? ⟨b, 1, none⟩ = false) (f2 : w.frozen? ⟨b, 2, none⟩ = false) :
    Calls Try.prog 39 #[.pointer (some ⟨b, 0, none⟩), .int .i64 a, .int .i64 c] w fun e w' => e = .returned (.tuple #[]) ∧ ∃ o, w' = ((((w.setCell ⟨b, 0, none⟩ (.int .u64 (sumOf x (compl (loOf a.natAbs c.natAbs)) 1 : Nat))).setCell ⟨b, 1, none⟩ (.int .u64 (sumOf y (compl (hiOf a.natAbs c.natAbs)) (carryOf x (compl (loOf a.natAbs c.natAbs)) 1) : Nat))).setCell ⟨b, 2, none⟩ (.int .u64 (sumOf z 18446744073709551615 (carryOf y (compl (hiOf a.natAbs c.natAbs)) (carryOf x (compl (loOf a.natAbs c.natAbs)) 1)) : Nat))).alloc o).drew.drew.drew := by
  go_enter Try.func39, Try.ntmps39
  go_wp2_with (fail)
  refine (abs_any a _ (by omega) (by omega)).mono ?_
  rintro e w' ⟨rfl, rfl⟩
  go_wp2_with (fail)
  refine (abs_any c _ (by omega) (by omega)).mono ?_
  rintro e w' ⟨rfl, rfl⟩
  go_wp2_with (fail)
  refine (mul64_any _ _ (by omega) (by omega) _).mono ?_
  rintro e w' ⟨rfl, rfl⟩
  go_wp2_with (fail)
  refine (sign_any a _).mono ?_
  rintro e w' ⟨rfl, rfl⟩
  go_wp2_with (fail)
  refine (sign_any c _).mono ?_
  rintro e w' ⟨rfl, rfl⟩
  go_wp2_with (fail)
  have hl := lo_lt a.natAbs c.natAbs
  have hh := hi_lt a.natAbs c.natAbs (by omega) (by omega)
  generalize hL : loOf a.natAbs c.natAbs = l at *
  generalize hH : hiOf a.natAbs c.natAbs = h at *
  have HL := Lib.hid hL
  have HH := Lib.hid hH
  clear hL hH
  have nl := not_word l hl
  have nh := not_word h hh
  have hadd0 : ∀ w, (callFunc 51 #[.int .u64 x, .int .u64 (compl l : Nat), .int .u64 1]).run Try.prog w = .ok (.value (.tuple #[.int .u64 (sumOf x (compl l) 1 : Nat), .int .u64 (carryOf x (compl l) 1 : Nat)])) w := add64_run x (compl l) 1 (by omega)
  have hadd1 : ∀ w, (callFunc 51 #[.int .u64 y, .int .u64 (compl h : Nat), .int .u64 (carryOf x (compl l) 1 : Nat)]).run Try.prog w = .ok (.value (.tuple #[.int .u64 (sumOf y (compl h) (carryOf x (compl l) 1) : Nat), .int .u64 (carryOf y (compl h) (carryOf x (compl l) 1) : Nat)])) w := add64_run y (compl h) (carryOf x (compl l) 1) (carry_one _ _ _ hx (compl_word l) (by omega))
  have hadd2 : ∀ w, (callFunc 51 #[.int .u64 z, .int .u64 18446744073709551615, .int .u64 (carryOf y (compl h) (carryOf x (compl l) 1) : Nat)]).run Try.prog w = .ok (.value (.tuple #[.int .u64 (sumOf z 18446744073709551615 (carryOf y (compl h) (carryOf x (compl l) 1)) : Nat), .int .u64 (carryOf z 18446744073709551615 (carryOf y (compl h) (carryOf x (compl l) 1)) : Nat)])) w := add64_run z 18446744073709551615 (carryOf y (compl h) (carryOf x (compl l) 1)) (carry_one _ _ _ hy (compl_word h) (carry_one _ _ _ hx (compl_word l) (by omega)))
  refine wp_loop_rounds 4 ?_
  rw [rounds_succ]
  go_wp2_with (fail)
  go_region
  go_wp2_with (fail)
  rw [rounds_succ]
  go_wp2_with (fail)
  go_region
  go_wp2_with (fail)
  rw [rounds_succ]
  go_wp2_with (fail)
  go_region
  go_wp2_with (fail)
  rw [rounds_succ]
  go_wp2_with (fail)
  go_end0
  exact ⟨rfl, _, by rw [HL.out, HH.out]⟩

end Go.Proofs.Ytbpppeekfjfolaa.IntWide
