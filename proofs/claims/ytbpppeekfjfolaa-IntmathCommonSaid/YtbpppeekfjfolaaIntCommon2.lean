/- The law IntmathCommon: the cases put together. -/
import Derived.Test.YtbpppeekfjfolaaIntCommon
namespace Go.Proofs.Ytbpppeekfjfolaa.IntCommon
set_option linter.unusedVariables false
open Go.RowKit Go.Proofs.Ytbpppeekfjfolaa.IntPlain Go.Proofs.Ytbpppeekfjfolaa.IntWalks Go.Proofs.Ytbpppeekfjfolaa.IntWide Go.Proofs.Ytbpppeekfjfolaa.IntSum Go.Proofs.Ytbpppeekfjfolaa.IntAwake Go.Proofs.Ytbpppeekfjfolaa.IntBasic Go.Proofs.Ytbpppeekfjfolaa.IntGcd Go.Proofs.Ytbpppeekfjfolaa.IntLcm Go.Proofs.Ytbpppeekfjfolaa.IntMultiples Go.Proofs.Ytbpppeekfjfolaa.IntEuclid Go.Proofs.Ytbpppeekfjfolaa.IntExtended Go.Proofs.Ytbpppeekfjfolaa.IntBezout

theorem mul_le (a b : Int) (A B : Nat) (ha : a.natAbs ≤ A) (hb : b.natAbs ≤ B) : -((A * B : Nat) : Int) ≤ a * b ∧ a * b ≤ ((A * B : Nat) : Int) := by
  have h := Nat.mul_le_mul ha hb
  rw [← Int.natAbs_mul] at h
  omega

theorem gcd_pair (a b : Int) (h : (inR a && inR b) = true) : Pair 22 a b (Int.gcd a b : Nat) 0 := by
  obtain ⟨g, e, g1, _, g3⟩ := sameGcd a b
  rw [h] at g3
  obtain ⟨rfl, rfl⟩ := of_yes g3
  exact g1

theorem rem_case (a g : Int) (hd : g ∣ a) : (a < 0 ∧ a.tmod g = 0) ∨ (0 ≤ a ∧ a % g = 0) := by
  by_cases h : a < 0
  · exact Or.inl ⟨h, Int.tmod_eq_zero_of_dvd hd⟩
  · exact Or.inr ⟨by omega, Int.emod_eq_zero_of_dvd hd⟩

theorem walk_in (a b k : Int) (w : World) (ha : -1073741824 ≤ a ∧ a ≤ 1073741824) (hb : -1073741824 ≤ b ∧ b ≤ 1073741824) (hk : -1048576 ≤ k ∧ k ≤ 1048576) (h0 : ¬ (a = 0 ∧ b = 0)) :
    Calls Try.prog 7 #[.int .i64 a, .int .i64 b, .int .i64 k] w fun e w' => e = .returned (.bool true) ∧ Below w.heap.size w w' := by
  have hia : inR a = true := (inR_iff a).2 (by omega)
  have hib : inR b = true := (inR_iff b).2 (by omega)
  have hG := gcd_pair a b (by rw [hia, hib]; rfl)
  have hg1 : 0 < Int.gcd a b := Nat.pos_of_ne_zero fun h => h0 (Int.gcd_eq_zero_iff.1 h)
  have hg2 : Int.gcd a b ≤ 1073741824 := by
    unfold Int.gcd
    by_cases h : a = 0
    · subst h; simp; omega
    · have := Nat.gcd_le_left b.natAbs (m := a.natAbs) (by omega); omega
  obtain ⟨hA1, hA2⟩ := mul_le a k 1073741824 1048576 (by omega) (by omega)
  obtain ⟨hB1, hB2⟩ := mul_le b k 1073741824 1048576 (by omega) (by omega)
  obtain ⟨hK1, hK2⟩ := mul_le ((Int.gcd a b : Nat) : Int) ((k.natAbs : Nat) : Int) 1073741824 1048576 (by omega) (by omega)
  have hM : Pair 22 (a * k) (b * k) (((Int.gcd a b : Nat) : Int) * ((k.natAbs : Nat) : Int)) 0 := by
    have h := gcd_pair (a * k) (b * k) (by rw [(inR_iff _).2 (by omega), (inR_iff _).2 (by omega)]; rfl)
    rw [Int.gcd_mul_right, Int.natCast_mul] at h
    exact h
  have hm0 : 0 ≤ ((Int.gcd a b : Nat) : Int) * ((k.natAbs : Nat) : Int) := Int.mul_nonneg (by omega) (by omega)
  have hck : (k < 0 ∧ ((Int.gcd a b : Nat) : Int) * -k = ((Int.gcd a b : Nat) : Int) * ((k.natAbs : Nat) : Int)) ∨ (0 ≤ k ∧ ((Int.gcd a b : Nat) : Int) * k = ((Int.gcd a b : Nat) : Int) * ((k.natAbs : Nat) : Int)) := by
    by_cases h : k < 0
    · exact Or.inl ⟨h, by congr 1; omega⟩
    · exact Or.inr ⟨by omega, by congr 1; omega⟩
  have hda : ((Int.gcd a b : Nat) : Int) ∣ a := Int.gcd_dvd_left ..
  have hdb : ((Int.gcd a b : Nat) : Int) ∣ b := Int.gcd_dvd_right ..
  by_cases hb0 : b = 0
  · subst hb0
    have hg : ((Int.gcd a 0 : Nat) : Int) = ((a.natAbs : Nat) : Int) := by rw [Int.gcd_zero_right]
    have hB := bezout_zero a hia
    rw [← hg] at hB
    have hI := inverse_of a 0 _ _ _ _ 0 1 (Lib.hid hB) (Or.inr (Or.inl ⟨rfl, by omega, rfl, rfl⟩))
    have hp : a * a.sign = ((Int.gcd a 0 : Nat) : Int) := by rw [hg, Int.mul_sign_self]
    have hs : -1 ≤ a.sign ∧ a.sign ≤ 1 := by
      by_cases h : 0 < a
      · rw [Int.sign_eq_one_of_pos h]; omega
      · rw [Int.sign_eq_neg_one_of_neg (by omega)]; omega
    exact law_main a 0 k _ a.sign 0 0 _ 0 (a * k) (0 * k) 0 0 0 _ 0 1 w ha.1 ha.2 hb.1 hb.2 hk.1 hk.2 (by omega) (by omega) (by omega) (by omega)
      hp (by omega) (by omega) (by simp) (by omega) (by omega) (by omega) rfl (by omega) (by omega) rfl (by omega) (by omega) (by omega) (by omega) (by omega) (by omega) (by decide) (by decide) (by omega) (by omega) (by decide) (by omega) hm0
      (rem_case a _ hda) hck (Or.inr (Or.inl ⟨rfl, rfl, rfl⟩)) (Lib.hid hG) (Lib.hid hB) (Lib.hid hM) (Lib.hid hI)
  · obtain ⟨x, y, hB, hL, hx1, hx2⟩ := bezout_in a b hia hib hb0
    obtain ⟨f1, f2, f3, f4, f5, f6⟩ := bezout_facts a b hb0
    have hmr : ((b.natAbs : Nat) : Int) / (Int.gcd a b : Nat) ≤ ((b.natAbs : Nat) : Int) := Int.ediv_le_self _ (by omega)
    have hpq : a * x + b * y = ((Int.gcd a b : Nat) : Int) := by
      unfold Leads at hL
      have e : (a / ((Int.gcd a b : Nat) : Int) * x + b / ((Int.gcd a b : Nat) : Int) * y) * ((Int.gcd a b : Nat) : Int) = a / ((Int.gcd a b : Nat) : Int) * ((Int.gcd a b : Nat) : Int) * x + b / ((Int.gcd a b : Nat) : Int) * ((Int.gcd a b : Nat) : Int) * y := by grind
      rw [← f2, ← f3, hL, Int.one_mul] at e
      exact e.symm
    obtain ⟨hp1, hp2⟩ := mul_le a x 1073741824 1073741824 (by omega) (by omega)
    have hcb : ∃ n j, Pair 28 a b n j ∧ ((b < 0 ∧ b.tmod ((Int.gcd a b : Nat) : Int) = 0 ∧ (-b) / ((Int.gcd a b : Nat) : Int) = ((b.natAbs : Nat) : Int) / (Int.gcd a b : Nat) ∧ 0 ≤ x ∧ x < ((b.natAbs : Nat) : Int) / (Int.gcd a b : Nat) ∧ j = 1) ∨ (b = 0 ∧ (0 : Int) = 0 ∧ j = 1) ∨ (0 < b ∧ b % ((Int.gcd a b : Nat) : Int) = 0 ∧ b / ((Int.gcd a b : Nat) : Int) = ((b.natAbs : Nat) : Int) / (Int.gcd a b : Nat) ∧ 0 ≤ x ∧ x < ((b.natAbs : Nat) : Int) / (Int.gcd a b : Nat) ∧ ((¬ ((Int.gcd a b : Nat) : Int) = 1 ∧ j = 9) ∨ (((Int.gcd a b : Nat) : Int) = 1 ∧ j = 0 ∧ n = x ∧ x < b ∧ (a * x - 1).tmod b = 0)))) := by
      by_cases hn : b < 0
      · refine ⟨0, 1, inverse_of a b _ _ _ _ 0 1 (Lib.hid hB) (Or.inr (Or.inl ⟨rfl, by omega, rfl, rfl⟩)), Or.inl ⟨hn, Int.tmod_eq_zero_of_dvd hdb, ?_, hx1, hx2, rfl⟩⟩
        rw [show ((b.natAbs : Nat) : Int) = -b from by omega]
      · have hbb : ((b.natAbs : Nat) : Int) = b := by omega
        by_cases h1 : ((Int.gcd a b : Nat) : Int) = 1
        · refine ⟨x, 0, inverse_of a b _ _ _ _ x 0 (Lib.hid hB) (Or.inr (Or.inr (Or.inr ⟨rfl, by omega, h1, rfl, rfl⟩))), Or.inr (Or.inr ⟨by omega, Int.emod_eq_zero_of_dvd hdb, by rw [hbb], hx1, hx2, Or.inr ⟨h1, rfl, rfl, ?_, ?_⟩⟩)⟩
          · omega
          · apply Int.tmod_eq_zero_of_dvd
            refine ⟨-y, ?_⟩
            rw [h1] at hpq
            rw [Int.mul_neg]
            omega
        · exact ⟨0, 9, inverse_of a b _ _ _ _ 0 9 (Lib.hid hB) (Or.inr (Or.inr (Or.inl ⟨rfl, by omega, bne_iff_ne.2 h1, rfl, rfl⟩))), Or.inr (Or.inr ⟨by omega, Int.emod_eq_zero_of_dvd hdb, by rw [hbb], hx1, hx2, Or.inl ⟨h1, rfl⟩⟩)⟩
    obtain ⟨n, j, hI, hcb⟩ := hcb
    exact law_main a b k _ x y _ _ _ (a * k) (b * k) 0 0 0 _ n j w ha.1 ha.2 hb.1 hb.2 hk.1 hk.2 f1 (by omega) (by omega) (by omega)
      rfl (by omega) (by omega) rfl (by omega) (by omega) hpq rfl (by omega) (by omega) rfl (by omega) (by omega) (by omega) (by omega) (by omega) (by omega) (by decide) (by decide) (by omega) (by omega) (by decide) (by omega) hm0
      (rem_case a _ hda) hck hcb (Lib.hid hG) (Lib.hid hB) (Lib.hid hM) (Lib.hid hI)

theorem walk (a b k : Int) (w : World) :
    Calls Try.prog 7 #[.int .i64 a, .int .i64 b, .int .i64 k] w fun e w' => e = .returned (.bool true) ∧ Below w.heap.size w w' := by
  by_cases h : (-1073741824 ≤ a ∧ a ≤ 1073741824) ∧ (-1073741824 ≤ b ∧ b ≤ 1073741824) ∧ (-1048576 ≤ k ∧ k ≤ 1048576)
  · by_cases h0 : a = 0 ∧ b = 0
    · obtain ⟨rfl, rfl⟩ := h0
      exact law_zero k w h.2.2.1 h.2.2.2 (Lib.hid (gcd_pair 0 0 (by decide))) (Lib.hid (bezout_zero 0 (by decide)))
    · exact walk_in a b k w h.1 h.2.1 h.2.2 h0
  · exact law_out a b k w (by omega)

end Go.Proofs.Ytbpppeekfjfolaa.IntCommon
