/- The walk of 'Bezout': the pair with the least x. -/
import Derived.Test.YtbpppeekfjfolaaIntExtended
namespace Go.Proofs.Ytbpppeekfjfolaa.IntBezout
set_option linter.unusedVariables false
open Go.RowKit Go.Proofs.Ytbpppeekfjfolaa.IntPlain Go.Proofs.Ytbpppeekfjfolaa.IntWalks Go.Proofs.Ytbpppeekfjfolaa.IntWide Go.Proofs.Ytbpppeekfjfolaa.IntBasic Go.Proofs.Ytbpppeekfjfolaa.IntEuclid Go.Proofs.Ytbpppeekfjfolaa.IntExtended

/-- What the rounds keep: the pair leads to 1, in lowest terms. -/
def Leads (n c x y : Int) : Prop := n * x + c * y = 1

theorem leads_up (n s m x y : Int) (h : Leads n (s * m) x y) : Leads n (s * m) (x + m) (y - s * n) ↔ s * s = 1 ∨ n * m = 0 := by
  unfold Leads at *
  have e : n * (x + m) + s * m * (y - s * n) = (n * x + s * m * y) + n * m * (1 - s * s) := by grind
  rw [e, h]
  constructor
  · intro h
    have h2 : n * m * (1 - s * s) = 0 := by omega
    rcases Int.mul_eq_zero.1 h2 with h2 | h2
    · exact Or.inr h2
    · left; omega
  · rintro (h | h)
    · rw [h]; omega
    · rw [h]; omega

theorem leads_down (n s m x y : Int) (hs : s * s = 1) (h : Leads n (s * m) x y) : Leads n (s * m) (x - m) (y + s * n) := by
  unfold Leads at *
  have e : n * (x - m) + s * m * (y + s * n) = (n * x + s * m * y) + n * m * (s * s - 1) := by grind
  rw [e, h, hs]; omega

/-- How far the second number of the pair is from 0. -/
theorem leads_range (n s m x y : Int) (hs : s = 1 ∨ s = -1) (hm : 0 < m) (hx1 : -m ≤ x) (hx2 : x ≤ m) (h : Leads n (s * m) x y) : -((n.natAbs : Nat) : Int) - 1 ≤ y ∧ y ≤ ((n.natAbs : Nat) : Int) + 1 := by
  unfold Leads at h
  have h1 : (n * x).natAbs ≤ n.natAbs * m.natAbs := by rw [Int.natAbs_mul]; exact Nat.mul_le_mul_left _ (by omega)
  have h2 : (s * m * y).natAbs = m.natAbs * y.natAbs := by
    rw [Int.natAbs_mul, Int.natAbs_mul]
    rcases hs with rfl | rfl <;> simp
  have h3 : m.natAbs * y.natAbs ≤ n.natAbs * m.natAbs + 1 := by omega
  have h4 : y.natAbs ≤ n.natAbs + 1 := by
    apply Nat.le_of_not_lt
    intro hc
    have h5 : m.natAbs * (n.natAbs + 2) ≤ m.natAbs * y.natAbs := Nat.mul_le_mul_left _ (by omega)
    have h6 : m.natAbs * (n.natAbs + 2) = n.natAbs * m.natAbs + 2 * m.natAbs := by rw [Nat.mul_add, Nat.mul_comm, Nat.mul_comm _ 2]
    omega
  omega

/-- What 'extended' gives, in lowest terms, and what 'Bezout' makes of it. -/
def Start (n c m g : Int) (w : World) (e : Ending) (w' : World) : Prop := ∃ x y : Int, e = .returned (.tuple #[.int .i64 g, .int .i64 x, .int .i64 y]) ∧ Leads n c x y ∧ -m ≤ x ∧ x ≤ m ∧ Below w.heap.size w w'
def Final (n c m g : Int) (w : World) (e : Ending) (w' : World) : Prop := ∃ x y : Int, e = .returned (.tuple #[.int .i64 g, .int .i64 x, .int .i64 y, .int .i64 0]) ∧ Leads n c x y ∧ 0 ≤ x ∧ x < m ∧ Below w.heap.size w w'

set_option maxHeartbeats 2000000 in
theorem bezout_core (a b B g s n m : Int) (w : World) (ha : -4611686018427387904 ≤ a ∧ a ≤ 4611686018427387904) (hb : -4611686018427387904 ≤ b ∧ b ≤ 4611686018427387904) (hb0 : (b == 0) = false)
    (hB1 : 0 ≤ B) (hB2 : B ≤ 4611686018427387904) (hg1 : 0 < g) (hg2 : g ≤ 4611686018427387904) (hm : B / g = m) (hm1 : 0 < m) (hm2 : m ≤ 4611686018427387904)
    (hn : (a < 0 ∧ a.tdiv g = n) ∨ (0 ≤ a ∧ a / g = n)) (hn1 : -4611686018427387904 ≤ n) (hn2 : n ≤ 4611686018427387904) (hs : s = 1 ∨ s = -1)
    (HI : Hid ((inR a && inR b) = true)) (HE : Hid (∀ w, Calls Try.prog 45 #[.int .i64 a, .int .i64 b] w (Start n (s * m) m g w)))
    (HA : Hid (∀ w, Calls Try.prog 43 #[.int .i64 b] w fun e w' => e = .returned (.int .i64 B) ∧ w = w')) (HS : Hid (∀ w, Calls Try.prog 44 #[.int .i64 b] w fun e w' => e = .returned (.int .i64 s) ∧ w = w')) :
    Calls Try.prog 24 #[.int .i64 a, .int .i64 b] w (Final n (s * m) m g w) := by
  have HSS : Hid (s * s = 1) := Lib.hid (by rcases hs with rfl | rfl <;> rfl)
  have HS1 := Lib.hid hs
  have hp : ∃ p, s * n = p ∧ -4611686018427387904 ≤ p ∧ p ≤ 4611686018427387904 := ⟨s * n, rfl, by rcases hs with rfl | rfl <;> omega, by rcases hs with rfl | rfl <;> omega⟩
  obtain ⟨p, hp, hp1, hp2⟩ := hp
  have HP := Lib.hid hp
  have hg0 : (g == 0) = false := beq_eq_false_iff_ne.2 (by omega)
  obtain ⟨ha1, ha2⟩ := ha
  obtain ⟨hb1, hb2⟩ := hb
  have hs1 : -1 ≤ s := by omega
  have hs2 : s ≤ 1 := by omega
  clear hs
  rcases hn with ⟨ha3, hn⟩ | ⟨ha3, hn⟩
  all_goals
    go_enter Try.func24, Try.ntmps24
    go_wp2_with (fail)
    refine (within_two _ a b _ (by go_cell) (by go_cell)).mono ?_
    rw [HI.out]
    rintro e w' ⟨rfl, rfl⟩
    go_wp2_with (fail)
    refine (HE.out _).mono ?_
    rintro e w1 ⟨x, y, rfl, hl, hx1, hx2, b1⟩
    have HL := Lib.hid hl
    have B1 := Lib.hid (bt (w := w) (by go_grown) b1)
    clear hl b1
    go_wp2_with (fail)
    go_loopw [5, 6] (fun s5 s6 wr => ∃ x y : Int, s5 = .int .i64 x ∧ s6 = .int .i64 y ∧ -m ≤ x ∧ x ≤ m ∧ Hid (Leads n (s * m) x y) ∧ Below w.heap.size w wr) (fun s5 _ _ => (m - intOf s5).toNat)
    case atStart => exact ⟨x, y, rfl, rfl, hx1, hx2, HL, B1.out⟩
    case round =>
      clear hx1 hx2 HL B1
      obtain ⟨x, y, rfl, rfl, hx1, hx2, HL, hB⟩ := hrel
      have HB := Lib.hid hB
      clear hB
      by_cases hx : x < 0
      · obtain ⟨hy1, hy2⟩ := leads_range n s m x y HS1.out hm1 hx1 hx2 HL.out
        have HL2 : Hid (Leads n (s * m) (x + m) (y - p)) := Lib.hid (by rw [← HP.out]; exact (leads_up n s m x y HL.out).2 (Or.inl HSS.out))
        obtain ⟨hz1, hz2⟩ := leads_range n s m (x + m) (y - p) HS1.out hm1 (by omega) (by omega) HL2.out
        have HY : Hid (wrap64 (y - p) = y - p) := Lib.hid (by unfold wrap64; omega)
        have hy3 : -4611686018427387905 ≤ y := by omega
        have hy4 : y ≤ 4611686018427387905 := by omega
        clear hy1 hy2 HL hz1 hz2
        go_wp2_with (fail)
        go_quiet (first | (go_at_call 43; exact calm_first (HA.out _)) | (go_at_call 44; exact calm_first (HS.out _)))
        go_wp2_with (fail)
        go_roundw
        case rel => exact ⟨x + m, y - p, rfl, by rw [HY.out], by omega, by omega, HL2, below_drewN HB.out _⟩
        case measure => simp [intOf]; omega
      · have hx3 : 0 ≤ x := by omega
        go_wp2_with (fail)
        go_loopw [5, 6] (fun s5 s6 wr => ∃ x y : Int, s5 = .int .i64 x ∧ s6 = .int .i64 y ∧ 0 ≤ x ∧ x ≤ m ∧ Hid (Leads n (s * m) x y) ∧ Below w.heap.size w wr) (fun s5 _ _ => (intOf s5).toNat)
        case atStart => exact ⟨x, y, rfl, rfl, hx3, hx2, HL, HB.out⟩
        case round =>
          clear hx hx3 hx1 hx2 HL HB
          obtain ⟨x, y, rfl, rfl, hx1, hx2, HL, hB⟩ := hrel
          have HB := Lib.hid hB
          clear hB
          by_cases hx : x < m
          · have HF : Hid (Final n (s * m) m g w (.returned (.tuple #[.int .i64 g, .int .i64 x, .int .i64 y, .int .i64 0])) _) := Lib.hid ⟨x, y, rfl, HL.out, hx1, hx, HB.out⟩
            go_wp2_with (fail)
            refine (HA.out _).mono ?_
            rintro e w' ⟨rfl, rfl⟩
            go_wp2_with (fail)
            refine bodyPost_ret (v := .tuple #[.int .i64 g, .int .i64 x, .int .i64 y, .int .i64 0]) (by simp [results, Try.results24, go_sem]) rfl ?_
            exact HF.out
          · obtain ⟨hy1, hy2⟩ := leads_range n s m x y HS1.out hm1 (by omega) hx2 HL.out
            have HL2 : Hid (Leads n (s * m) (x - m) (y + p)) := Lib.hid (by rw [← HP.out]; exact leads_down n s m x y HSS.out HL.out)
            obtain ⟨hz1, hz2⟩ := leads_range n s m (x - m) (y + p) HS1.out hm1 (by omega) (by omega) HL2.out
            have HY : Hid (wrap64 (y + p) = y + p) := Lib.hid (by unfold wrap64; omega)
            have hy3 : -4611686018427387905 ≤ y := by omega
            have hy4 : y ≤ 4611686018427387905 := by omega
            clear hy1 hy2 HL hz1 hz2
            go_wp2_with (fail)
            refine (HA.out _).mono ?_
            rintro e w' ⟨rfl, rfl⟩
            go_wp2_with (fail)
            go_quiet (first | (go_at_call 43; exact calm_first (HA.out _)) | (go_at_call 44; exact calm_first (HS.out _)))
            go_wp2_with (fail)
            go_roundw
            case rel => exact ⟨x - m, y + p, rfl, by rw [HY.out], by omega, by omega, HL2, below_drewN HB.out _⟩
            case measure => simp [intOf]; omega

end Go.Proofs.Ytbpppeekfjfolaa.IntBezout
