/- The order of encodings. -/
import Derived.Test.YtcibkgmochikmaaWireAppend
namespace Go.Proofs.Ytcibkgmochikmaa.WireOrd
set_option linter.unusedVariables false
open Go.RowKit Go.Proofs.Ytcibkgmochikmaa.WireBase Go.Proofs.Ytcibkgmochikmaa.WireInt Go.Proofs.Ytcibkgmochikmaa.WireAppend

/-- The first place at which two rows differ, in front of the end of either, has the lesser number in the first one. -/
def Before (X Y : List Int) : Prop := ∃ p x y s t, X = p ++ x :: s ∧ Y = p ++ y :: t ∧ x < y

theorem Before.cons {X Y : List Int} (h : Before X Y) (a : Int) : Before (a :: X) (a :: Y) := by
  obtain ⟨p, x, y, s, t, rfl, rfl, hlt⟩ := h
  exact ⟨a :: p, x, y, s, t, rfl, rfl, hlt⟩

theorem Before.head {X Y : List Int} {x y : Int} (h : x < y) : Before (x :: X) (y :: Y) := ⟨[], x, y, X, Y, rfl, rfl, h⟩

theorem mod_step (m : Int) (k : Nat) : m % 256 ^ (k + 1) = (m / 256 ^ k % 256) * 256 ^ k + m % 256 ^ k := by
  have h0 : (0 : Int) < 256 ^ k := Int.pow_pos (by decide)
  rw [Int.pow_succ]
  have e1 := Int.mul_ediv_add_emod m (256 ^ k)
  have e2 := Int.mul_ediv_add_emod (m / 256 ^ k) 256
  have r1 := Int.emod_nonneg m (Int.ne_of_gt h0)
  have r2 := Int.emod_lt_of_pos m h0
  generalize m / 256 ^ k = q at *
  generalize m % 256 ^ k = r at *
  generalize (256 : Int) ^ k = p at *
  have e : m = (q / 256) * (p * 256) + ((q % 256) * p + r) := by
    rw [← e1]
    have : p * q = p * (256 * (q / 256) + q % 256) := by rw [e2]
    rw [this, Int.mul_add, ← Int.mul_assoc, Int.mul_comm (q / 256) (p * 256), Int.mul_comm (q % 256) p, Int.add_assoc]
  have hb : (0 : Int) < p * 256 := by omega
  have hq : 0 ≤ q % 256 ∧ q % 256 ≤ 255 := by omega
  have lo : 0 ≤ (q % 256) * p := Int.mul_nonneg hq.1 (by omega)
  have hi : (q % 256) * p ≤ 255 * p := Int.mul_le_mul_of_nonneg_right hq.2 (by omega)
  rw [e, Int.mul_comm (q / 256) (p * 256), Int.mul_add_emod_self_left]
  exact Int.emod_eq_of_lt (by omega) (by omega)

theorem be_before (k : Nat) : ∀ m m' : Int, m % 256 ^ k < m' % 256 ^ k → Before (be (flip false) m k) (be (flip false) m' k) ∧ Before (be (flip true) m' k) (be (flip true) m k) := by
  induction k with
  | zero => intro m m' h; simp [Int.emod_one] at h
  | succ k ih =>
    intro m m' h
    rw [mod_step, mod_step] at h
    have h0 : (0 : Int) < 256 ^ k := Int.pow_pos (by decide)
    have r1 := Int.emod_nonneg m (Int.ne_of_gt h0)
    have r2 := Int.emod_lt_of_pos m h0
    have r3 := Int.emod_nonneg m' (Int.ne_of_gt h0)
    have r4 := Int.emod_lt_of_pos m' h0
    have i := ih m m'
    unfold be
    generalize m / 256 ^ k % 256 = q at *
    generalize m' / 256 ^ k % 256 = q' at *
    generalize m % 256 ^ k = r at *
    generalize m' % 256 ^ k = r' at *
    generalize (256 : Int) ^ k = p at *
    rcases Int.lt_trichotomy q q' with hq | rfl | hq
    · exact ⟨Before.head (show q < q' from hq), Before.head (show 255 - q' < 255 - q by omega)⟩
    · have := i (by omega)
      exact ⟨this.1.cons _, this.2.cons _⟩
    · exfalso
      have : (q' + 1) * p ≤ q * p := Int.mul_le_mul_of_nonneg_right (by omega) (by omega)
      rw [Int.add_mul] at this
      omega

set_option maxHeartbeats 4000000 in
theorem len_mono (r s : Int) (h : r ≤ s) : len r ≤ len s := by
  unfold len
  repeat' split
  all_goals omega

theorem cnt_mono (r s : Int) (h : r ≤ s) : cnt r ≤ cnt s := by
  unfold cnt
  have := len_mono (r / 256) (s / 256) (by omega)
  omega

theorem cnt_pow (m : Int) (h2 : m < 18446744073709551616) : m < 256 ^ (cnt m).toNat := by
  unfold cnt len
  repeat' split
  all_goals (simp; omega)

theorem enc_neg (n : Int) (h : n < -120) : enc n = (8 - cnt (-121 - n)) :: be (flip true) (-121 - n) (cnt (-121 - n)).toNat := by
  have e : mag n = -121 - n := by unfold mag; rw [if_neg (by omega), if_pos h]
  unfold enc
  rw [if_neg (by unfold isOne; simp; omega), e, decide_eq_true h]
  rfl

theorem enc_pos (n : Int) (h : 119 < n) : enc n = (247 + cnt (n - 120)) :: be (flip false) (n - 120) (cnt (n - 120)).toNat := by
  have e : mag n = n - 120 := by unfold mag; rw [if_pos h]
  unfold enc
  rw [if_neg (by unfold isOne; simp; omega), e, decide_eq_false (by omega)]
  rfl

theorem enc_one (n : Int) (h1 : -120 ≤ n) (h2 : n ≤ 119) : enc n = [n + 128] := by
  unfold enc
  rw [if_pos (by unfold isOne; simp; omega)]

theorem enc_before (a b : Int) (ha : isI a) (hb : isI b) (h : a < b) : Before (enc a) (enc b) := by
  obtain ⟨a1, a2⟩ := ha
  obtain ⟨b1, b2⟩ := hb
  by_cases ca : a < -120
  · have ra := cnt_range (-121 - a) (by omega) (by omega)
    rw [enc_neg a ca]
    by_cases cb : b < -120
    · have rb := cnt_range (-121 - b) (by omega) (by omega)
      rw [enc_neg b cb]
      have hm := cnt_mono (-121 - b) (-121 - a) (by omega)
      by_cases he : cnt (-121 - b) = cnt (-121 - a)
      · rw [he]
        refine Before.cons (be_before _ (-121 - b) (-121 - a) ?_).2 _
        have p1 := cnt_pow (-121 - a) (by omega)
        rw [Int.emod_eq_of_lt (by omega) (by omega), Int.emod_eq_of_lt (by omega) p1]
        omega
      · exact Before.head (by omega)
    · by_cases cb2 : b ≤ 119
      · rw [enc_one b (by omega) cb2]
        exact Before.head (by omega)
      · have rb := cnt_range (b - 120) (by omega) (by omega)
        rw [enc_pos b (by omega)]
        exact Before.head (by omega)
  · by_cases ca2 : a ≤ 119
    · rw [enc_one a (by omega) ca2]
      by_cases cb2 : b ≤ 119
      · rw [enc_one b (by omega) cb2]
        exact Before.head (by omega)
      · have rb := cnt_range (b - 120) (by omega) (by omega)
        rw [enc_pos b (by omega)]
        exact Before.head (by omega)
    · have ra := cnt_range (a - 120) (by omega) (by omega)
      have rb := cnt_range (b - 120) (by omega) (by omega)
      rw [enc_pos a (by omega), enc_pos b (by omega)]
      have hm := cnt_mono (a - 120) (b - 120) (by omega)
      by_cases he : cnt (a - 120) = cnt (b - 120)
      · rw [he]
        refine Before.cons (be_before _ (a - 120) (b - 120) ?_).1 _
        have p1 := cnt_pow (b - 120) (by omega)
        rw [Int.emod_eq_of_lt (by omega) (by omega), Int.emod_eq_of_lt (by omega) p1]
        omega
      · exact Before.head (by omega)

theorem u8_lt (x y : Int) (hx : 0 ≤ x ∧ x ≤ 255) (hy : 0 ≤ y ∧ y ≤ 255) : (UInt8.ofNat x.toNat < UInt8.ofNat y.toNat) ↔ x < y := by
  rw [UInt8.lt_iff_toNat_lt, UInt8.toNat_ofNat', UInt8.toNat_ofNat', Nat.mod_eq_of_lt (by omega), Nat.mod_eq_of_lt (by omega)]
  omega

theorem less_of (X Y : List Int) (bX : Bytes X) (bY : Bytes Y) (h : Before X Y) : Op.bytesLess (Lib.bytesOf X) (Lib.bytesOf Y) = true ∧ Op.bytesLess (Lib.bytesOf Y) (Lib.bytesOf X) = false := by
  obtain ⟨p, x, y, s, t, rfl, rfl, hlt⟩ := h
  unfold Lib.bytesOf
  induction p with
  | nil =>
    have hx := bX x (by simp)
    have hy := bY y (by simp)
    have l1 := (u8_lt x y hx hy).2 hlt
    have l2 : ¬ UInt8.ofNat y.toNat < UInt8.ofNat x.toNat := fun h => by have := (u8_lt y x hy hx).1 h; omega
    have l3 : ¬ UInt8.ofNat y.toNat = UInt8.ofNat x.toNat := fun h => by rw [h] at l1; exact UInt8.lt_irrefl _ l1
    simp [Op.bytesLess, l1, l2, l3]
  | cons a p ih =>
    have := ih (fun n hn => bX n (List.mem_cons_of_mem _ hn)) (fun n hn => bY n (List.mem_cons_of_mem _ hn))
    simpa [Op.bytesLess] using this

theorem take_ne (X Y : List Int) (h : Before X Y) : X.take (min X.length Y.length) ≠ Y.take (min X.length Y.length) := by
  obtain ⟨p, x, y, s, t, rfl, rfl, hlt⟩ := h
  intro e
  have e2 := congrArg (fun l => l[p.length]?) e
  simp only [List.getElem?_take] at e2
  rw [if_pos (by simp), if_pos (by simp)] at e2
  simp at e2
  omega

end Go.Proofs.Ytcibkgmochikmaa.WireOrd
