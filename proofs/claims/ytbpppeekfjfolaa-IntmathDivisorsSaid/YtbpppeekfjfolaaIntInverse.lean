/- The reference's inverse modulo a number, and its long quotient. -/
import Derived.Test.YtbpppeekfjfolaaIntBezout2
namespace Go.Proofs.Ytbpppeekfjfolaa.IntInverse
set_option linter.unusedVariables false
open Go.RowKit Go.Proofs.Ytbpppeekfjfolaa.IntPlain Go.Proofs.Ytbpppeekfjfolaa.IntWalks Go.Proofs.Ytbpppeekfjfolaa.IntWide Go.Proofs.Ytbpppeekfjfolaa.IntSum Go.Proofs.Ytbpppeekfjfolaa.IntBasic Go.Proofs.Ytbpppeekfjfolaa.IntGcd Go.Proofs.Ytbpppeekfjfolaa.IntLcm Go.Proofs.Ytbpppeekfjfolaa.IntMultiples Go.Proofs.Ytbpppeekfjfolaa.IntEuclid Go.Proofs.Ytbpppeekfjfolaa.IntExtended Go.Proofs.Ytbpppeekfjfolaa.IntBezout

/-- What the rounds of 'inverse' keep besides Euclid's: the second sequence grows. -/
structure InvG (m t r s u v : Int) : Prop where
  inv : ∃ x y, Inv m t r s x y u v
  grow : u.natAbs ≤ v.natAbs
  s0 : 0 ≤ s
  lt : s < r

theorem invg_step (m t r s u v : Int) (hs : 0 < s) (h : InvG m t r s u v) : InvG m t s (r % s) v (u - r / s * v) ∧ (u - r / s * v).natAbs ≤ m.natAbs ∧ (r / s * v).natAbs ≤ m.natAbs := by
  obtain ⟨⟨x, y, hi⟩, hg, h0, hlt⟩ := h
  have hr0 : 0 ≤ r := by omega
  have h2 := inv_step m t r s x y u v (by omega) hi
  have h3 := turn_step r s u v hi.tu
  have e1 : r.tdiv s = r / s := Int.tdiv_eq_ediv_of_nonneg hr0
  have e2 : r.tmod s = r % s := Int.tmod_eq_emod_of_nonneg hr0
  rw [e1, e2] at h2
  rw [e1] at h3
  have hq : 1 ≤ r / s := by
    have := (Int.le_ediv_iff_mul_le hs (a := 1) (b := r)).2 (by omega)
    omega
  have hqn : 1 ≤ (r / s).natAbs := by omega
  have hm := Nat.mul_le_mul_right v.natAbs hqn
  have heu := h2.eu
  have h5 : (u - r / s * v).natAbs * 1 ≤ (u - r / s * v).natAbs * s.natAbs := Nat.mul_le_mul_left _ (by omega)
  refine ⟨⟨⟨_, _, h2⟩, by omega, Int.emod_nonneg r (by omega), Int.emod_lt_of_pos r hs⟩, by omega, ?_⟩
  rw [Int.natAbs_mul]
  omega

set_option maxHeartbeats 1000000 in
theorem inverse_is (t m x z : Int) (w : World) (hm : 1 < m) (hm2 : m ≤ 4611686018427387904) (ht : 0 ≤ t) (ht2 : t < m) (hx : 0 ≤ x) (hx2 : x < m) (hl : Leads t m x z) :
    Calls Try.prog 46 #[.int .i64 t, .int .i64 m] w fun e w' => e = .returned (.int .i64 x) ∧ Below w.heap.size w w' := by
  have HL := Lib.hid hl
  clear hl
  go_enter Try.func46, Try.ntmps46
  go_wp2
  go_loopw [5, 6, 7, 8] (fun s5 s6 s7 s8 wr => ∃ r s u v : Int, s5 = .int .i64 r ∧ s6 = .int .i64 s ∧ s7 = .int .i64 u ∧ s8 = .int .i64 v ∧ 0 ≤ r ∧ r ≤ 4611686018427387904 ∧ 0 ≤ s ∧ s ≤ 4611686018427387904 ∧ (-4611686018427387904 ≤ u ∧ u ≤ 4611686018427387904) ∧ (-4611686018427387904 ≤ v ∧ v ≤ 4611686018427387904) ∧
    Hid (InvG m t r s u v) ∧ Below w.heap.size w wr) (fun _ s6 _ _ _ => (intOf s6).toNat)
  case atStart => exact ⟨m, t, 0, 1, rfl, rfl, rfl, rfl, by omega, by omega, by omega, by omega, by omega, by omega, Lib.hid ⟨⟨1, 0, inv_start m t⟩, by omega, ht, ht2⟩, Below.refl _ _⟩
  case round =>
    obtain ⟨r, s, u, v, rfl, rfl, rfl, rfl, hr1, hr2, hs1, hs2, ⟨hu1, hu2⟩, ⟨hv1, hv2⟩, HI, hB⟩ := hrel
    have HB := Lib.hid hB
    clear hB
    by_cases hs : 0 < s
    · obtain ⟨hn, hn2, hn3⟩ := invg_step m t r s u v hs HI.out
      have HN := Lib.hid hn
      have hrem := Int.emod_nonneg r (b := s) (by omega)
      have hrem2 := Int.emod_lt_of_pos r hs
      have e1 : r / s * s + r % s = r := by rw [Int.mul_comm]; exact Int.mul_ediv_add_emod r s
      have a1 : 0 ≤ r / s := Int.ediv_nonneg hr1 hs1
      have a2 : r / s ≤ r := Int.ediv_le_self _ hr1
      have a5 : -4611686018427387904 ≤ r / s * v := by omega
      have a6 : r / s * v ≤ 4611686018427387904 := by omega
      have a7 : -4611686018427387904 ≤ u - r / s * v := by omega
      have a8 : u - r / s * v ≤ 4611686018427387904 := by omega
      have e2 : r - r / s * s = r % s := by omega
      have a9 : 0 ≤ r / s * s := Int.mul_nonneg a1 hs1
      have a10 : r / s * s ≤ 4611686018427387904 := by omega
      have a11 : r % s ≤ 4611686018427387904 := by omega
      clear HI hn hn2 hn3 e1
      go_wp2
      go_roundw
      case rel => exact ⟨s, r % s, v, u - r / s * v, rfl, rfl, rfl, rfl, hs1, hs2, hrem, a11, ⟨hv1, hv2⟩, ⟨a7, a8⟩, HN, HB.out⟩
      case measure => simp [intOf]; omega
    · obtain rfl : s = 0 := by omega
      obtain ⟨⟨xx, yy, hi⟩, hg, _, _⟩ := HI.out
      have hgc : Int.gcd m t = 1 := by
        have h1 : ((Int.gcd m t : Nat) : Int) ∣ 1 := by
          have e : (1 : Int) = t * x + m * z := HL.out.symm
          rw [e]
          exact Int.dvd_add (Int.dvd_mul_of_dvd_left (Int.gcd_dvd_right ..)) (Int.dvd_mul_of_dvd_left (Int.gcd_dvd_left ..))
        have := Int.natAbs_dvd_natAbs.2 h1
        rw [Int.natAbs_natCast] at this
        exact Nat.dvd_one.1 this
      have hrone : r = 1 := by
        have := hi.gc
        rw [Int.gcd_zero_right, hgc] at this
        omega
      have hu : Leads t m u xx := by
        unfold Leads
        have := hi.er
        rw [hrone] at this
        omega
      have hvm : v.natAbs = m.natAbs := by
        have := hi.eu
        rw [hrone] at this
        simp at this
        omega
      have hres : (u < 0 ∧ u + m = x) ∨ (0 ≤ u ∧ u = x) := by
        have hum : u ≠ m ∧ u ≠ -m := by
          have key : ∀ c : Int, u = m * c → False := by
            intro c hc
            unfold Leads at hu
            have hd : m ∣ 1 := ⟨t * c + xx, by rw [← hu, hc]; grind⟩
            have := Int.le_of_dvd (by omega) hd
            omega
          exact ⟨fun h => key 1 (by omega), fun h => key (-1) (by omega)⟩
        by_cases hn : u < 0
        · left
          refine ⟨hn, ?_⟩
          have h2 : Leads t m (u + m) (xx - t) := by unfold Leads at *; rw [← hu]; grind
          exact (leads_unique t m (u + m) (xx - t) x z (by omega) h2 HL.out ⟨by omega, by omega⟩ ⟨hx, by omega⟩).1
        · right
          exact ⟨by omega, (leads_unique t m u xx x z (by omega) hu HL.out ⟨by omega, by omega⟩ ⟨hx, by omega⟩).1⟩
      clear hi hg hgc hrone hu hvm HI
      rcases hres with ⟨hn, he⟩ | ⟨hn, rfl⟩
      · have HE := Lib.hid he
        clear he
        go_wp2
        go_ret
        exact ⟨by rw [← HE.out]; rfl, HB.out⟩
      · go_wp2
        go_ret
        exact ⟨rfl, HB.out⟩

end Go.Proofs.Ytbpppeekfjfolaa.IntInverse
