/- Products modulo 2^61 - 1: the walk of 'multiply'. -/
import Derived.Test.YtpgkgagmdjhojaaBase
import Derived.Test.YtpgkgagmdjhojaaBits
import Derived.WalkSpells
import Derived.WalkLawsBesides
import Derived.Deep.QuietTactic
import Derived.BigQuiet
import Derived.Outline
namespace Go.Proofs.Ytpgkgagmdjhojaa.DigMul
set_option linter.unusedVariables false
open Go.RowKit

set_option maxHeartbeats 2000000 in
theorem multiply_core (a b al bl ah bh s u v z lo n : Int) (w : World) 
    (ha1 : bits .and .i64 a 2147483647 = al) (hb1 : bits .and .i64 b 2147483647 = bl) (ha2 : a / 2147483648 = ah) (hb2 : b / 2147483648 = bh) (ha : 0 ≤ a) (hb : 0 ≤ b)
    (al1 : 0 ≤ al) (al2 : al ≤ 2147483647) (bl1 : 0 ≤ bl) (bl2 : bl ≤ 2147483647) (ah1 : 0 ≤ ah) (ah2 : ah ≤ 1073741823) (bh1 : 0 ≤ bh) (bh2 : bh ≤ 1073741823)
    (hs : al * bl = s) (hs1 : 0 ≤ s) (hs2 : s ≤ 4611686018427387904) (hu : al * bh = u) (hu1 : 0 ≤ u) (hu2 : u ≤ 2305843009213693951) (hv : bl * ah = v) (hv1 : 0 ≤ v) (hv2 : v ≤ 2305843009213693951)
    (hz : 2 * ah * bh = z) (hz1 : 0 ≤ z) (hz2 : z ≤ 2305843009213693951) (hl : bits .and .u64 (u + v) 1073741823 = lo) (hl1 : 0 ≤ lo) (hl2 : lo ≤ 1073741823)
    (HN : Hid ((s + (u + v) / 1073741824 + lo * 2147483648 + z) % 2305843009213693951 = n)) :
    Calls Try.prog 34 #[.int .i64 a, .int .i64 b] w fun e w' => e = .returned (.int .i64 n) ∧ Below w.heap.size w w' := by
  have i0 : ∀ (x0 x1 x2 x3 : Value) w, (Instr.index 53 (.agg #[x0, x1, x2, x3]) (.int .i64 0)).run Try.prog w = .ok x0 w := fun _ _ _ _ _ => by kernel_rfl
  have i1 : ∀ (x0 x1 x2 x3 : Value) w, (Instr.index 53 (.agg #[x0, x1, x2, x3]) (.int .i64 1)).run Try.prog w = .ok x1 w := fun _ _ _ _ _ => by kernel_rfl
  have i2 : ∀ (x0 x1 x2 x3 : Value) w, (Instr.index 53 (.agg #[x0, x1, x2, x3]) (.int .i64 2)).run Try.prog w = .ok x2 w := fun _ _ _ _ _ => by kernel_rfl
  have i3 : ∀ (x0 x1 x2 x3 : Value) w, (Instr.index 53 (.agg #[x0, x1, x2, x3]) (.int .i64 3)).run Try.prog w = .ok x3 w := fun _ _ _ _ _ => by kernel_rfl
  go_enter Try.func34, Try.ntmps34
  go_wp2
  refine wp_loop_rounds 5 ?_
  rw [rounds_succ]
  go_wp2
  rw [rounds_succ]
  go_wp2
  rw [rounds_succ]
  go_wp2
  rw [rounds_succ]
  go_wp2
  rw [rounds_succ]
  go_wp2
  go_ret
  exact ⟨by rw [← HN.out]; rfl, by go_grown⟩

theorem bound_mul (x y X Y : Int) (hx : 0 ≤ x) (hx2 : x ≤ X) (hy : 0 ≤ y) (hy2 : y ≤ Y) : 0 ≤ x * y ∧ x * y ≤ X * Y :=
  ⟨Int.mul_nonneg hx hy, Int.mul_le_mul hx2 hy2 hy (by omega)⟩

theorem multiply_any (a b : Int) (w : World) (ha : 0 ≤ a) (ha2 : a < 2305843009213693951) (hb : 0 ≤ b) (hb2 : b < 2305843009213693951) :
    Calls Try.prog 34 #[.int .i64 a, .int .i64 b] w fun e w' => e = .returned (.int .i64 (a * b % 2305843009213693951)) ∧ Below w.heap.size w w' := by
  have ma := Bits.i64_mask 31 (by omega) a
  have mb := Bits.i64_mask 31 (by omega) b
  rw [show ((2 ^ 31 - 1 : Nat) : Int) = 2147483647 from by decide, show ((2 ^ 31 : Nat) : Int) = 2147483648 from by decide] at ma mb
  obtain ⟨s1, s2⟩ := bound_mul (a % 2147483648) (b % 2147483648) 2147483647 2147483647 (by omega) (by omega) (by omega) (by omega)
  obtain ⟨u1, u2⟩ := bound_mul (a % 2147483648) (b / 2147483648) 2147483647 1073741823 (by omega) (by omega) (by omega) (by omega)
  obtain ⟨v1, v2⟩ := bound_mul (b % 2147483648) (a / 2147483648) 2147483647 1073741823 (by omega) (by omega) (by omega) (by omega)
  obtain ⟨z1, z2⟩ := bound_mul (2 * (a / 2147483648)) (b / 2147483648) 2147483646 1073741823 (by omega) (by omega) (by omega) (by omega)
  have ml := Bits.u64_mask 30 (by omega) (a % 2147483648 * (b / 2147483648) + b % 2147483648 * (a / 2147483648)) (by omega) (by omega)
  rw [show ((2 ^ 30 - 1 : Nat) : Int) = 1073741823 from by decide, show ((2 ^ 30 : Nat) : Int) = 1073741824 from by decide] at ml
  have e : a * b = a % 2147483648 * (b % 2147483648) + (a % 2147483648 * (b / 2147483648) + b % 2147483648 * (a / 2147483648)) * 2147483648 + 2 * (a / 2147483648) * (b / 2147483648) * 2305843009213693952 := by
    have h1 := Int.mul_ediv_add_emod a 2147483648
    have h2 := Int.mul_ediv_add_emod b 2147483648
    generalize a % 2147483648 = x at *
    generalize b % 2147483648 = y at *
    generalize a / 2147483648 = c at *
    generalize b / 2147483648 = d at *
    rw [← h1, ← h2]
    grind
  refine multiply_core a b _ _ _ _ _ _ _ _ _ _ w ma mb rfl rfl ha hb (by omega) (by omega) (by omega) (by omega) (by omega) (by omega) (by omega) (by omega) rfl s1 (by omega) rfl u1 (by omega) rfl v1 (by omega) rfl z1 (by omega) ml (by omega) (by omega) (Lib.hid ?_)
  rw [e]
  omega

end Go.Proofs.Ytpgkgagmdjhojaa.DigMul
