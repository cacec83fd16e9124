/- Digests of bytes: the walks of 'extend', 'Of', 'More', 'power', 'Power' and 'Join'. -/
import Derived.Test.YtpgkgagmdjhojaaDigMul
import Derived.Laws.EntriesVeiled
namespace Go.Proofs.Ytpgkgagmdjhojaa.DigExt
set_option linter.unusedVariables false
open Go.RowKit Go.Proofs.Ytpgkgagmdjhojaa.DigMul

/-- The digest of bytes behind d. -/
def ext (d : Int) (zs : List Int) : Int := zs.foldl (fun d c => (d * 1000003 + c + 1) % 2305843009213693951) d

theorem ext_snoc (d : Int) (zs : List Int) (k : Nat) (h : k < zs.length) : ext d (zs.take (k + 1)) = (ext d (zs.take k) * 1000003 + zs.getD k 0 + 1) % 2305843009213693951 := by
  rw [getD_take zs k h]
  unfold ext
  rw [List.foldl_append]
  rfl

theorem ext_range (zs : List Int) : ∀ d, 0 ≤ d → d < 2305843009213693951 → 0 ≤ ext d zs ∧ ext d zs < 2305843009213693951 := by
  induction zs with
  | nil => exact fun d h1 h2 => ⟨h1, h2⟩
  | cons c l ih => exact fun d h1 h2 => ih _ (Int.emod_nonneg _ (by decide)) (Int.emod_lt_of_pos _ (by decide))

/-- Bytes. -/
def Bytes (zs : List Int) : Prop := ∀ n ∈ zs, 0 ≤ n ∧ n ≤ 255

theorem valid_any (d : Int) (w : World) : Calls Try.prog 28 #[.int .i64 d] w fun e w' => e = .returned (.bool (decide (0 ≤ d) && decide (d < 2305843009213693951))) ∧ w = w' := by
  by_cases h : 0 ≤ d
  · by_cases h2 : d < 2305843009213693951
    · go_enter Try.func28, Try.ntmps28
      go_wp2
      go_ret
      exact ⟨by simp; omega, rfl⟩
    · go_enter Try.func28, Try.ntmps28
      go_wp2
      go_ret
      exact ⟨by simp; omega, rfl⟩
  · go_enter Try.func28, Try.ntmps28
    go_wp2
    go_ret
    exact ⟨by simp; omega, rfl⟩

set_option maxHeartbeats 1000000 in
theorem extend_any (d : Int) (A : Option Addr) (cap : Nat) (zs : List Int) (w : World) (hd : 0 ≤ d) (hd2 : d < 2305843009213693951) (hl : Lies w .u8 w.heap.size A zs) (hb : Bytes zs) (hlen : zs.length ≤ 9223372036854775807) :
    Calls Try.prog 29 #[.int .i64 d, .slice A zs.length cap] w fun e w' => e = .returned (.int .i64 (ext d zs)) ∧ Below w.heap.size w w' := by
  have HL := Lib.hid hl
  have HB := Lib.hid hb
  clear hl hb
  go_enter Try.func29, Try.ntmps29
  go_wp2
  go_loopw [0, 9] (fun s0 s9 wr => ∃ (k : Nat) (x : Int), k ≤ zs.length ∧ s9 = .int .i64 k ∧ s0 = .int .i64 x ∧ 0 ≤ x ∧ x < 2305843009213693951 ∧ Hid (x = ext d (zs.take k)) ∧ Below w.heap.size w wr) (fun _ s9 _ => zs.length - (intOf s9).toNat)
  case atStart => exact ⟨0, d, Nat.zero_le _, rfl, rfl, hd, hd2, Lib.hid rfl, Below.refl _ _⟩
  case round =>
    obtain ⟨k, x, hk, rfl, rfl, hx1, hx2, HX, hB⟩ := hrel
    have HW := Lib.hid hB
    by_cases hlt : k < zs.length
    · obtain ⟨ad, rfl, hcell⟩ := (HL.out.below hB).at_ hlt
      have hbt := HB.out _ (getD_mem zs k hlt)
      have HS := Lib.hid (ext_snoc d zs k hlt)
      rw [← HX.out] at HS
      clear HX hB
      generalize zs.getD k 0 = c at *
      obtain ⟨hc1, hc2⟩ := hbt
      have hm1 := Int.emod_nonneg (x * 1000003) (b := 2305843009213693951) (by decide)
      have hm2 := Int.emod_lt_of_pos (x * 1000003) (b := 2305843009213693951) (by decide)
      have HM := Lib.hid (fun w => multiply_any x 1000003 w hx1 hx2 (by decide) (by decide))
      have hsum : (x * 1000003 % 2305843009213693951 + c + 1) % 2305843009213693951 = (x * 1000003 + c + 1) % 2305843009213693951 := by omega
      have HE : Hid ((x * 1000003 % 2305843009213693951 + c + 1) % 2305843009213693951 = ext d (zs.take (k + 1))) := Lib.hid (by rw [HS.out]; exact hsum)
      clear hsum HS
      generalize x * 1000003 % 2305843009213693951 = m at *
      go_wp2_with (fail)
      refine (HM.out _).mono ?_
      rintro e w1 ⟨rfl, b1⟩
      have HB1 := Lib.hid (HW.out.trans (b1.mono HW.out.size))
      clear b1
      have r1 := Int.emod_nonneg (m + c + 1) (b := 2305843009213693951) (by decide)
      have r2 := Int.emod_lt_of_pos (m + c + 1) (b := 2305843009213693951) (by decide)
      go_wp2
      go_roundw
      case rel => exact ⟨k + 1, _, by omega, by go_num, rfl, r1, r2, HE, HB1.out⟩
      case measure => simp [intOf]; omega
    · obtain rfl : k = zs.length := by omega
      rw [List.take_length] at HX
      clear hB
      go_wp2
      go_ret
      exact ⟨by rw [← HX.out]; rfl, HW.out⟩

theorem of_any (A : Option Addr) (cap : Nat) (zs : List Int) (w : World) (hl : Lies w .u8 w.heap.size A zs) (hb : Bytes zs) (hlen : zs.length ≤ 9223372036854775807) :
    Calls Try.prog 15 #[.slice A zs.length cap] w fun e w' => e = .returned (.int .i64 (ext 0 zs)) ∧ Below w.heap.size w w' := by
  have HE := Lib.hid (extend_any 0 A cap zs w (by decide) (by decide) hl hb hlen)
  clear hl hb
  go_enter Try.func15, Try.ntmps15
  go_wp2_with (fail)
  refine HE.out.mono ?_
  rintro e w1 ⟨rfl, b1⟩
  go_wp2
  go_ret
  exact ⟨rfl, b1⟩

/-- X to the power of n, modulo P. -/
def pow (n : Nat) : Int := (1000003 : Int) ^ n % 2305843009213693951

theorem pow_range (n : Nat) : 0 ≤ pow n ∧ pow n < 2305843009213693951 := ⟨Int.emod_nonneg _ (by decide), Int.emod_lt_of_pos _ (by decide)⟩

theorem pow_half (n : Nat) : (n % 2 = 1 → pow (n / 2) * pow (n / 2) % 2305843009213693951 * 1000003 % 2305843009213693951 = pow n) ∧ (n % 2 = 0 → pow (n / 2) * pow (n / 2) % 2305843009213693951 = pow n) := by
  have e : (1000003 : Int) ^ n = 1000003 ^ (n / 2) * 1000003 ^ (n / 2) * 1000003 ^ (n % 2) := by
    rw [← Int.pow_add, ← Int.pow_add]
    congr 1
    omega
  refine ⟨fun h => ?_, fun h => ?_⟩
  · unfold pow
    rw [e, h, Int.pow_one, ← Int.mul_emod, Int.mul_emod (1000003 ^ (n / 2) * 1000003 ^ (n / 2)) 1000003, Int.mul_emod ((1000003 ^ (n / 2) * 1000003 ^ (n / 2)) % 2305843009213693951), Int.emod_emod]
  · unfold pow
    rw [e, h, Int.pow_zero, Int.mul_one, ← Int.mul_emod]

set_option maxHeartbeats 1000000 in
theorem raise_any (b : Nat) : ∀ (fuel : Nat) (n : Nat) (w : World), n ≤ fuel → n ≤ 9223372036854775807 → b < w.heap.size → w.cell? ⟨b, 0, none⟩ = some (.func (.func 38) #[] #[.pointer (some ⟨b, 0, none⟩)]) →
    Calls Try.prog 38 #[.int .i64 n, .pointer (some ⟨b, 0, none⟩)] w fun e w' => e = .returned (.int .i64 (pow n)) ∧ Below w.heap.size w w' := by
  intro fuel
  induction fuel with
  | zero =>
    intro n w hn hn2 hbw hc
    obtain rfl : n = 0 := by omega
    go_enter Try.func38, Try.ntmps38
    go_wp2
    go_ret
    exact ⟨rfl, Below.refl _ _⟩
  | succ f ih =>
    intro n w hn hn2 hbw hc
    by_cases h0 : n = 0
    · subst h0
      go_enter Try.func38, Try.ntmps38
      go_wp2
      go_ret
      exact ⟨rfl, Below.refl _ _⟩
    · have hnz : ((n : Int) == 0) = false := beq_eq_false_iff_ne.2 (by omega)
      go_enter Try.func38, Try.ntmps38
      go_wp2_with (fail)
      have hh : ((n : Int) / 2) = ((n / 2 : Nat) : Int) := by omega
      rw [hh]
      refine (ih (n / 2) _ (by omega) (by omega) hbw hc).mono ?_
      rintro e w1 ⟨rfl, b1⟩
      obtain ⟨p1, p2⟩ := pow_range (n / 2)
      have HM := Lib.hid (fun w => multiply_any (pow (n / 2)) (pow (n / 2)) w p1 p2 p1 p2)
      have m1 := Int.emod_nonneg (pow (n / 2) * pow (n / 2)) (b := 2305843009213693951) (by decide)
      have m2 := Int.emod_lt_of_pos (pow (n / 2) * pow (n / 2)) (b := 2305843009213693951) (by decide)
      have HM2 := Lib.hid (fun w => multiply_any (pow (n / 2) * pow (n / 2) % 2305843009213693951) 1000003 w m1 m2 (by decide) (by decide))
      have HP := Lib.hid (pow_half n)
      generalize hm : pow (n / 2) * pow (n / 2) % 2305843009213693951 = m at *
      have HMM := Lib.hid hm
      clear hm hh ih
      by_cases hodd : n % 2 = 1
      · have ho : (((n : Int) % 2 == 1) = true) := by rw [beq_iff_eq]; omega
        have HP1 : Hid (m * 1000003 % 2305843009213693951 = pow n) := Lib.hid (HP.out.1 hodd)
        go_wp2_with (fail)
        refine (HM.out _).mono ?_
        rintro e w2 ⟨rfl, b2⟩
        go_wp2_with (fail)
        refine (HM2.out _).mono ?_
        rintro e w3 ⟨rfl, b3⟩
        go_wp2
        go_ret
        exact ⟨by rw [← HP1.out]; rfl, bt (bt b1 b2) b3⟩
      · have ho : (((n : Int) % 2 == 1) = false) := by rw [beq_eq_false_iff_ne]; omega
        have HP1 : Hid (m = pow n) := Lib.hid (HP.out.2 (by omega))
        go_wp2_with (fail)
        refine (HM.out _).mono ?_
        rintro e w2 ⟨rfl, b2⟩
        go_wp2
        go_ret
        exact ⟨by rw [← HP1.out]; rfl, bt b1 b2⟩

theorem power_any (n : Nat) (w : World) (hn : n ≤ 9223372036854775807) : Calls Try.prog 35 #[.int .i64 n] w fun e w' => e = .returned (.int .i64 (pow n)) ∧ Below w.heap.size w w' := by
  have HR := Lib.hid (fun b w => raise_any b n n w (Nat.le_refl _) hn)
  go_enter Try.func35, Try.ntmps35
  go_wp2_with (fail)
  refine (HR.out w.heap.size _ (by go_size) (by go_cell)).mono ?_
  rintro e w1 ⟨rfl, b1⟩
  go_wp2
  go_ret
  exact ⟨rfl, bt (by go_grown) b1⟩

theorem powerCall_any (n : Nat) (w : World) (hn : n ≤ 9223372036854775807) : Calls Try.prog 22 #[.int .i64 n] w fun e w' => e = .returned (.tuple #[.int .i64 (pow n), .int .i64 0]) ∧ Below w.heap.size w w' := by
  have HR := Lib.hid (power_any n · hn)
  go_enter Try.func22, Try.ntmps22
  go_wp2_with (fail)
  refine (HR.out _).mono ?_
  rintro e w1 ⟨rfl, b1⟩
  go_wp2
  go_ret2
  exact ⟨rfl, b1⟩

theorem powerCall_neg (n : Int) (w : World) (hn : n < 0) : Calls Try.prog 22 #[.int .i64 n] w fun e w' => e = .returned (.tuple #[.int .i64 0, .int .i64 2]) ∧ w = w' := by
  go_enter Try.func22, Try.ntmps22
  go_wp2
  go_ret2
  exact ⟨rfl, rfl⟩

/-- Whether a number is a digest. -/
def isD (d : Int) : Bool := decide (0 ≤ d) && decide (d < 2305843009213693951)
theorem isD_iff (d : Int) : isD d = true ↔ 0 ≤ d ∧ d < 2305843009213693951 := by unfold isD; simp

theorem join_ok (a b : Int) (n : Nat) (w : World) (ha : isD a = true) (hb : isD b = true) (hn : n ≤ 9223372036854775807) :
    Calls Try.prog 20 #[.int .i64 a, .int .i64 b, .int .i64 n] w fun e w' => e = .returned (.tuple #[.int .i64 ((a * pow n + b) % 2305843009213693951), .int .i64 0]) ∧ Below w.heap.size w w' := by
  obtain ⟨ha1, ha2⟩ := (isD_iff a).1 ha
  obtain ⟨hb1, hb2⟩ := (isD_iff b).1 hb
  have HVa : Hid (∀ w, Calls Try.prog 28 #[.int .i64 a] w fun e w' => e = .returned (.bool true) ∧ w = w') := Lib.hid fun w => by rw [← ha]; exact valid_any a w
  have HVb : Hid (∀ w, Calls Try.prog 28 #[.int .i64 b] w fun e w' => e = .returned (.bool true) ∧ w = w') := Lib.hid fun w => by rw [← hb]; exact valid_any b w
  have HR := Lib.hid (power_any n · hn)
  obtain ⟨p1, p2⟩ := pow_range n
  have HM := Lib.hid (fun w => multiply_any a (pow n) w ha1 ha2 p1 p2)
  have m1 := Int.emod_nonneg (a * pow n) (b := 2305843009213693951) (by decide)
  have m2 := Int.emod_lt_of_pos (a * pow n) (b := 2305843009213693951) (by decide)
  have HE : Hid ((a * pow n % 2305843009213693951 + b) % 2305843009213693951 = (a * pow n + b) % 2305843009213693951) := Lib.hid (by omega)
  generalize a * pow n % 2305843009213693951 = m at *
  have hn0 : (0 : Int) ≤ n := by omega
  clear ha hb hn p1 p2
  go_enter Try.func20, Try.ntmps20
  go_wp2_with (fail)
  refine (HVa.out _).mono ?_
  rintro e w' ⟨rfl, rfl⟩
  go_wp2_with (fail)
  refine (HVb.out _).mono ?_
  rintro e w' ⟨rfl, rfl⟩
  go_wp2_with (fail)
  refine (HR.out _).mono ?_
  rintro e w1 ⟨rfl, b1⟩
  go_wp2_with (fail)
  refine (HM.out _).mono ?_
  rintro e w2 ⟨rfl, b2⟩
  go_wp2
  go_ret2
  exact ⟨by rw [← HE.out]; rfl, bt b1 b2⟩

end Go.Proofs.Ytpgkgagmdjhojaa.DigExt
