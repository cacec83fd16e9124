/- The reference's digests: the walks of its 'mul', 'More', 'Of', 'Power' and 'Join'. -/
import Derived.Test.YtpgkgagmdjhojaaDigParts
import Derived.Test.YtpgkgagmdjhojaaStop
import Derived.Deep.RegionHeld3
import Derived.IntWalk
namespace Go.Proofs.Ytpgkgagmdjhojaa.DigRef
set_option linter.unusedVariables false
open Go.RowKit Go.Proofs.Ytpgkgagmdjhojaa.DigMul Go.Proofs.Ytpgkgagmdjhojaa.DigExt Go.Proofs.Ytpgkgagmdjhojaa.DigParts

theorem mul_odd (x y z r : Int) (h : (z + x * y) % 2305843009213693951 = r) (hy : y % 2 = 1) : ((z + x) % 2305843009213693951 + (x + x) % 2305843009213693951 * (y / 2)) % 2305843009213693951 = r := by
  rw [Int.emod_add_emod, Int.add_comm (z + x), mod_left, Int.add_comm _ (z + x), ← h]
  congr 1
  have e : y = 2 * (y / 2) + 1 := by omega
  generalize y / 2 = t at *
  subst e
  rw [Int.mul_add, Int.mul_one, Int.add_mul, show x * (2 * t) = x * t + x * t by rw [Int.mul_left_comm]; omega]
  omega
theorem mul_even (x y z r : Int) (h : (z + x * y) % 2305843009213693951 = r) (hy : y % 2 = 0) : (z + (x + x) % 2305843009213693951 * (y / 2)) % 2305843009213693951 = r := by
  rw [Int.add_comm z, mod_left, Int.add_comm _ z, ← h]
  congr 1
  have e : y = 2 * (y / 2) := by omega
  generalize y / 2 = t at *
  subst e
  rw [Int.add_mul, show x * (2 * t) = x * t + x * t by rw [Int.mul_left_comm]; omega]

set_option maxHeartbeats 1000000 in
theorem mul_any (a b : Int) (w : World) (ha : 0 ≤ a ∧ a < 2305843009213693951) (hb : 0 ≤ b ∧ b < 2305843009213693951) :
    Calls Try.prog 30 #[.int .i64 a, .int .i64 b] w fun e w' => e = .returned (.int .i64 (a * b % 2305843009213693951)) ∧ w = w' := by
  obtain ⟨a1, a2⟩ := ha
  obtain ⟨b1, b2⟩ := hb
  obtain ⟨r, hr⟩ : ∃ r, r = a * b % 2305843009213693951 := ⟨_, rfl⟩
  rw [← hr]
  have HR := Lib.hid hr
  clear hr
  go_enter Try.func30, Try.ntmps30
  go_wp2
  go_loopw [0, 1, 5] (fun s0 s1 s3 wr => ∃ x y z : Int, s0 = .int .i64 x ∧ s1 = .int .i64 y ∧ s3 = .int .i64 z ∧ 0 ≤ x ∧ x < 2305843009213693951 ∧ 0 ≤ y ∧ y < 2305843009213693951 ∧ 0 ≤ z ∧ z < 2305843009213693951 ∧ Hid ((z + x * y) % 2305843009213693951 = r) ∧ wr = w) (fun _ s1 _ _ => (intOf s1).toNat)
  case atStart => exact ⟨a, b, 0, rfl, rfl, rfl, a1, a2, b1, b2, by decide, by decide, Lib.hid (by rw [Int.zero_add]; exact HR.out.symm), rfl⟩
  case round =>
    obtain ⟨x, y, z, rfl, rfl, rfl, x1, x2, y1, y2, z1, z2, HI, rfl⟩ := hrel
    by_cases hy : 0 < y
    · by_cases hm : y % 2 = 1
      · have HN := Lib.hid (mul_odd x y z r HI.out hm)
        have hm1 : (y % 2 == 1) = true := by rw [beq_iff_eq]; exact hm
        clear HI
        have m1 := Int.emod_nonneg (z + x) (b := 2305843009213693951) (by decide)
        have m2 := Int.emod_lt_of_pos (z + x) (b := 2305843009213693951) (by decide)
        have n1 := Int.emod_nonneg (x + x) (b := 2305843009213693951) (by decide)
        have n2 := Int.emod_lt_of_pos (x + x) (b := 2305843009213693951) (by decide)
        go_wp2
        go_roundw
        case rel => exact ⟨_, _, _, rfl, rfl, rfl, n1, n2, by omega, by omega, m1, m2, HN, trivial⟩
        case measure => simp [intOf]; omega
      · have HN := Lib.hid (mul_even x y z r HI.out (by omega))
        have hm0 : (y % 2 == 1) = false := beq_eq_false_iff_ne.2 hm
        clear HI
        have n1 := Int.emod_nonneg (x + x) (b := 2305843009213693951) (by decide)
        have n2 := Int.emod_lt_of_pos (x + x) (b := 2305843009213693951) (by decide)
        go_wp2
        go_roundw
        case rel => exact ⟨_, _, _, rfl, rfl, rfl, n1, n2, by omega, by omega, z1, z2, HN, trivial⟩
        case measure => simp [intOf]; omega
    · obtain rfl : y = 0 := by omega
      have e := HI.out
      rw [Int.mul_zero, Int.add_zero, Int.emod_eq_of_lt z1 z2] at e
      subst e
      go_wp2
      go_ret
      exact ⟨rfl, rfl⟩

set_option maxHeartbeats 1000000 in
theorem refMore_in (d : Int) (A : Option Addr) (cap : Nat) (zs : List Int) (w : World) (hd : isD d = true) (hl : Lies w .u8 w.heap.size A zs) (hb : Bytes zs) (hlen : ((zs.length : Nat) : Int) ≤ 1000000) :
    Calls Try.prog 12 #[.int .i64 d, .slice A zs.length cap] w fun e w' => e = .returned (.tuple #[.int .i64 (ext d zs), .int .i64 0]) ∧ Below w.heap.size w w' := by
  obtain ⟨hd1, hd2⟩ := (isD_iff d).1 hd
  have HL := Lib.hid hl
  have HB := Lib.hid hb
  clear hl hb hd
  go_enter Try.func12, Try.ntmps12
  go_wp2
  go_loopw [0, 6] (fun s0 s4 wr => ∃ (k : Nat) (x : Int), k ≤ zs.length ∧ s4 = .int .i64 k ∧ s0 = .int .i64 x ∧ 0 ≤ x ∧ x < 2305843009213693951 ∧ Hid (x = ext d (zs.take k)) ∧ Below w.heap.size w wr) (fun _ s4 _ => zs.length - (intOf s4).toNat)
  case atStart => exact ⟨0, d, Nat.zero_le _, rfl, rfl, hd1, hd2, Lib.hid rfl, Below.refl _ _⟩
  case round =>
    obtain ⟨k, x, hk, rfl, rfl, hx1, hx2, HX, hB⟩ := hrel
    have HW := Lib.hid hB
    by_cases hlt : k < zs.length
    · obtain ⟨ad, rfl, hcell⟩ := (HL.out.below hB).at_ hlt
      have CE : Hid (∀ w', Below w.heap.size w w' → w'.cell? (ad.add k) = some (.int .u8 (zs.getD k 0))) := Lib.hid fun w' hb => by
        obtain ⟨ad', e1, e2⟩ := (HL.out.below hb).at_ hlt
        injection e1 with e1
        rw [e1]; exact e2
      have hbt := HB.out _ (getD_mem zs k hlt)
      have HS := Lib.hid (ext_snoc d zs k hlt)
      rw [← HX.out] at HS
      clear HX hB
      generalize zs.getD k 0 = c at *
      obtain ⟨hc1, hc2⟩ := hbt
      have hm1 := Int.emod_nonneg (x * 1000003) (b := 2305843009213693951) (by decide)
      have hm2 := Int.emod_lt_of_pos (x * 1000003) (b := 2305843009213693951) (by decide)
      have HM := Lib.hid (fun w => mul_any x 1000003 w ⟨hx1, hx2⟩ (by decide))
      have hsum : (x * 1000003 % 2305843009213693951 + c + 1) % 2305843009213693951 = (x * 1000003 + c + 1) % 2305843009213693951 := by omega
      have HE : Hid ((x * 1000003 % 2305843009213693951 + c + 1) % 2305843009213693951 = ext d (zs.take (k + 1))) := Lib.hid (by rw [HS.out]; exact hsum)
      clear hsum HS
      generalize x * 1000003 % 2305843009213693951 = m at *
      have r1 := Int.emod_nonneg (m + c + 1) (b := 2305843009213693951) (by decide)
      have r2 := Int.emod_lt_of_pos (m + c + 1) (b := 2305843009213693951) (by decide)
      have t0 : (0 : Int) ≤ m + c + 1 := by omega
      have t1 : m + c ≤ 9223372036854775806 := by omega
      have ht := Int.tmod_eq_emod_of_nonneg (b := 2305843009213693951) t0
      have hw0 : IntKind.i64.wrap c = c := IntWalk.i64_in _ (by omega)
      have hw1 : IntKind.i64.wrap (m + c) = m + c := IntWalk.i64_in _ (by omega)
      have hw2 : IntKind.i64.wrap (m + c + 1) = m + c + 1 := IntWalk.i64_in _ (by omega)
      have hkc : (k : Int) < ((zs.length : Nat) : Int) := by omega
      have HCE : Hid (∀ w', Below w.heap.size w w' → w'.cell? (ad.add k) = some (.int .u8 c)) := Lib.hid fun w' hb => CE.out w' hb
      go_wp2_with (fail)
      go_region_held3 (fun w' => w'.cell? (ad.add k) = some (.int .u8 c))
        ((refine HCE.out _ ?_; first | exact HW.out | exact HW.out.drew))
        (first
          | (go_at_call 30; ((with_reducible refine (HM.out _).mono ?_); rintro e w' ⟨rfl, rfl⟩)))
      try simp only [hw0, hw1, hw2, ht]
      clear hw0 hw1 hw2 ht
      go_wp2
      go_roundw
      case rel => exact ⟨k + 1, _, by omega, by go_num, rfl, r1, r2, HE, HW.out.drew⟩
      case measure => simp [intOf]; omega
    · obtain rfl : k = zs.length := by omega
      rw [List.take_length] at HX
      clear hB
      go_wp2
      go_ret2
      exact ⟨by rw [← HX.out]; rfl, HW.out⟩

theorem refMore_out (d : Int) (A : Option Addr) (cap n : Nat) (w : World) (hd : d < 0 ∨ (0 ≤ d ∧ 2305843009213693951 ≤ d)) :
    Calls Try.prog 12 #[.int .i64 d, .slice A n cap] w fun e w' => e = .returned (.tuple #[.int .i64 0, .int .i64 2]) ∧ Below w.heap.size w w' := by
  rcases hd with hd | ⟨h1, hd⟩
  all_goals
    go_enter Try.func12, Try.ntmps12
    go_wp2
    go_ret2
    exact ⟨rfl, Below.refl _ _⟩

theorem refOf_any (A : Option Addr) (cap : Nat) (zs : List Int) (w : World) (hl : Lies w .u8 w.heap.size A zs) (hb : Bytes zs) (hlen : ((zs.length : Nat) : Int) ≤ 1000000) :
    Calls Try.prog 16 #[.slice A zs.length cap] w fun e w' => e = .returned (.int .i64 (ext 0 zs)) ∧ Below w.heap.size w w' := by
  have HE := Lib.hid (refMore_in 0 A cap zs w (by decide) hl hb hlen)
  clear hl hb
  go_enter Try.func16, Try.ntmps16
  go_wp2_with (fail)
  refine HE.out.mono ?_
  rintro e w1 ⟨rfl, b1⟩
  go_wp2
  go_ret
  exact ⟨rfl, b1⟩

theorem pow_mod (a : Int) (k : Nat) : (a % 2305843009213693951) ^ k % 2305843009213693951 = a ^ k % 2305843009213693951 := by
  induction k with
  | zero => rw [Int.pow_zero, Int.pow_zero]
  | succ k ih => rw [Int.pow_succ, Int.pow_succ, Int.mul_emod, ih, Int.emod_emod, ← Int.mul_emod]

theorem power_odd (o x r : Int) (n : Nat) (h : o * (x ^ n) % 2305843009213693951 = r) (hn : n % 2 = 1) : o * x % 2305843009213693951 * ((x * x % 2305843009213693951) ^ (n / 2)) % 2305843009213693951 = r := by
  rw [← h, Int.mul_emod, pow_mod, Int.emod_emod, ← Int.mul_emod]
  congr 1
  have e : n = n / 2 + n / 2 + 1 := by omega
  generalize n / 2 = t at *
  subst e
  rw [Int.pow_succ, Int.pow_add, Int.mul_pow]
  generalize x ^ t = y
  rw [Int.mul_assoc, Int.mul_comm x]
theorem power_even (o x r : Int) (n : Nat) (h : o * (x ^ n) % 2305843009213693951 = r) (hn : n % 2 = 0) : o * ((x * x % 2305843009213693951) ^ (n / 2)) % 2305843009213693951 = r := by
  rw [← h, Int.mul_emod, pow_mod, ← Int.mul_emod]
  congr 1
  have e : n = n / 2 + n / 2 := by omega
  generalize n / 2 = t at *
  subst e
  rw [Int.pow_add, Int.mul_pow]

set_option maxHeartbeats 1000000 in
theorem refPower_in (n : Nat) (w : World) (hn : (n : Int) ≤ 9223372036854775807) :
    Calls Try.prog 23 #[.int .i64 n] w fun e w' => e = .returned (.tuple #[.int .i64 (pow n), .int .i64 0]) ∧ w = w' := by
  obtain ⟨r, hr⟩ : ∃ r, r = pow n := ⟨_, rfl⟩
  rw [← hr]
  have HR := Lib.hid hr
  clear hr
  have hn0 : (0 : Int) ≤ (n : Int) := by omega
  go_enter Try.func23, Try.ntmps23
  go_wp2
  go_loopw [0, 4, 5] (fun s0 s3 s4 wr => ∃ (m : Nat) (o x : Int), s0 = .int .i64 m ∧ s3 = .int .i64 o ∧ s4 = .int .i64 x ∧ (m : Int) ≤ 9223372036854775807 ∧ 0 ≤ o ∧ o < 2305843009213693951 ∧ 0 ≤ x ∧ x < 2305843009213693951 ∧ Hid (o * (x ^ m) % 2305843009213693951 = r) ∧ wr = w) (fun s0 _ _ _ => (intOf s0).toNat)
  case atStart => exact ⟨n, 1, 1000003, rfl, rfl, rfl, hn, by decide, by decide, by decide, by decide, Lib.hid (by rw [Int.one_mul]; exact HR.out.symm), rfl⟩
  case round =>
    obtain ⟨m, o, x, rfl, rfl, rfl, hm, o1, o2, x1, x2, HI, rfl⟩ := hrel
    by_cases h0 : 0 < m
    · have hm0 : (0 : Int) < (m : Int) := by omega
      have hdiv : Hid (((m : Int) / 2) = ((m / 2 : Nat) : Int)) := Lib.hid (by omega)
      have s1 := Int.emod_nonneg (x * x) (b := 2305843009213693951) (by decide)
      have s2 := Int.emod_lt_of_pos (x * x) (b := 2305843009213693951) (by decide)
      have HXX := Lib.hid (fun w => mul_any x x w ⟨x1, x2⟩ ⟨x1, x2⟩)
      by_cases h2 : m % 2 = 1
      · have HN := Lib.hid (power_odd o x r m HI.out h2)
        have e1 : ((m : Int) % 2 == 1) = true := by rw [beq_iff_eq]; omega
        have t1 := Int.emod_nonneg (o * x) (b := 2305843009213693951) (by decide)
        have t2 := Int.emod_lt_of_pos (o * x) (b := 2305843009213693951) (by decide)
        have HOX := Lib.hid (fun w => mul_any o x w ⟨o1, o2⟩ ⟨x1, x2⟩)
        clear HI
        generalize x * x % 2305843009213693951 = xx at *
        generalize o * x % 2305843009213693951 = ox at *
        go_wp2_with (fail)
        refine (HOX.out _).mono ?_
        rintro e w' ⟨rfl, rfl⟩
        go_wp2_with (fail)
        refine (HXX.out _).mono ?_
        rintro e w' ⟨rfl, rfl⟩
        go_wp2
        go_roundw
        case rel => exact ⟨m / 2, _, _, by rw [← hdiv.out], rfl, rfl, by omega, t1, t2, s1, s2, HN, trivial⟩
        case measure => simp [intOf]; omega
      · have HN := Lib.hid (power_even o x r m HI.out (by omega))
        have e1 : ((m : Int) % 2 == 1) = false := beq_eq_false_iff_ne.2 (by omega)
        clear HI
        generalize x * x % 2305843009213693951 = xx at *
        go_wp2_with (fail)
        refine (HXX.out _).mono ?_
        rintro e w' ⟨rfl, rfl⟩
        go_wp2
        go_roundw
        case rel => exact ⟨m / 2, _, _, by rw [← hdiv.out], rfl, rfl, by omega, o1, o2, s1, s2, HN, trivial⟩
        case measure => simp [intOf]; omega
    · obtain rfl : m = 0 := by omega
      have e := HI.out
      rw [Int.pow_zero, Int.mul_one, Int.emod_eq_of_lt o1 o2] at e
      subst e
      go_wp2
      go_ret2
      exact ⟨rfl, rfl⟩

end Go.Proofs.Ytpgkgagmdjhojaa.DigRef
