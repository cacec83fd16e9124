/- What is written is read, and what is read was written. -/
import Derived.Test.YtcibkgmochikmaaWireParse
namespace Go.Proofs.Ytcibkgmochikmaa.WireCode
set_option linter.unusedVariables false
open Go.RowKit Go.Proofs.Ytcibkgmochikmaa.WireBase Go.Proofs.Ytcibkgmochikmaa.WireInt Go.Proofs.Ytcibkgmochikmaa.WireAppend Go.Proofs.Ytcibkgmochikmaa.WireOrd Go.Proofs.Ytcibkgmochikmaa.WireRead Go.Proofs.Ytcibkgmochikmaa.WireParse

theorem div_pow (m : Int) (k : Nat) : m / 256 / 256 ^ k = m / 256 ^ (k + 1) := by
  rw [Int.pow_succ, Int.mul_comm, Int.ediv_ediv, if_neg (fun h => by omega), Int.sub_zero]

theorem be_snoc (f : Int → Int) (m : Int) (k : Nat) : be f m (k + 1) = be f (m / 256) k ++ [f (m % 256)] := by
  induction k with
  | zero => simp [be]
  | succ k ih =>
    show f (m / 256 ^ (k + 1) % 256) :: be f m (k + 1) = (f (m / 256 / 256 ^ k % 256) :: be f (m / 256) k) ++ [f (m % 256)]
    rw [ih, div_pow]
    rfl

theorem flip_flip (neg : Bool) (x : Int) : WireAppend.flip neg (WireAppend.flip neg x) = x := by unfold WireAppend.flip; cases neg <;> simp <;> omega

theorem be_vh (neg : Bool) (Z : List Int) (hb : Bytes Z) (k : Nat) (h : k + 1 ≤ Z.length) : be (WireAppend.flip neg) (vh neg Z k) k = (Z.drop 1).take k := by
  induction k with
  | zero => rfl
  | succ k ih =>
    have d := flip_range neg _ (getD_byte Z hb (k + 1))
    rw [be_snoc]
    have e1 : vh neg Z (k + 1) / 256 = vh neg Z k := by
      show (vh neg Z k * 256 + WireAppend.flip neg (Z.getD (k + 1) 0)) / 256 = _
      omega
    have e2 : vh neg Z (k + 1) % 256 = WireAppend.flip neg (Z.getD (k + 1) 0) := by
      show (vh neg Z k * 256 + WireAppend.flip neg (Z.getD (k + 1) 0)) % 256 = _
      omega
    rw [e1, e2, ih (by omega), flip_flip, getD_take (Z.drop 1) k (by rw [List.length_drop]; omega)]
    simp [List.getD]

theorem cnt_low (V : Int) (h : 2 ≤ cnt V) (h1 : 0 ≤ V) (h2 : V < 18446744073709551616) : 256 ^ ((cnt V).toNat - 1) ≤ V := by
  revert h
  unfold cnt len
  repeat' split
  all_goals (intro h; simp at h ⊢; try omega)

theorem cnt_is (V : Int) (k : Nat) (hk1 : 1 ≤ k) (hk8 : k ≤ 8) (h0 : 0 ≤ V) (h1 : V < 256 ^ k) (h2 : k = 1 ∨ 256 ^ (k - 1) ≤ V) : cnt V = k := by
  have hk : k = 1 ∨ k = 2 ∨ k = 3 ∨ k = 4 ∨ k = 5 ∨ k = 6 ∨ k = 7 ∨ k = 8 := by omega
  unfold cnt len
  rcases hk with rfl | rfl | rfl | rfl | rfl | rfl | rfl | rfl
  all_goals
    simp at h1 h2
    repeat' split
  all_goals omega

theorem vh_low (neg : Bool) (Z : List Int) (hb : Bytes Z) (h : WireAppend.flip neg (Z.getD 1 0) ≠ 0) (i : Nat) : 256 ^ i ≤ vh neg Z (i + 1) := by
  induction i with
  | zero =>
    have d := flip_range neg _ (getD_byte Z hb 1)
    show (256 : Int) ^ 0 ≤ 0 * 256 + WireAppend.flip neg (Z.getD 1 0)
    have : (256 : Int) ^ 0 = 1 := rfl
    omega
  | succ i ih =>
    have d := flip_range neg _ (getD_byte Z hb (i + 1 + 1))
    show (256 : Int) ^ (i + 1) ≤ vh neg Z (i + 1) * 256 + WireAppend.flip neg (Z.getD (i + 1 + 1) 0)
    rw [Int.pow_succ]
    omega

/-- What is read was written. -/
theorem dec_enc (Z : List Int) (hb : Bytes Z) (m s : Int) (h : dec Z = some (m, s)) : isI m ∧ s = (enc m).length ∧ Z = enc m ++ Z.drop s.toNat := by
  unfold dec at h
  split at h
  · cases h
  · rename_i h0
    have hz : Z = Z.getD 0 0 :: Z.drop 1 := by
      cases Z with
      | nil => simp at h0
      | cons a l => rfl
    have hc := getD_byte Z hb 0
    split at h
    · rename_i h1
      cases h
      rw [enc_one _ (by omega) (by omega)]
      refine ⟨⟨by omega, by omega⟩, rfl, ?_⟩
      show Z = [Z.getD 0 0 - 128 + 128] ++ Z.drop 1
      rw [show Z.getD 0 0 - 128 + 128 = Z.getD 0 0 by omega]
      exact hz
    · rename_i h1
      split at h
      · rename_i h2
        unfold ok at h2
        rw [Bool.and_eq_true, Bool.and_eq_true, Bool.or_eq_true, decide_eq_true_eq, decide_eq_true_eq, decide_eq_true_eq, Bool.not_eq_true', decide_eq_false_iff_not] at h2
        obtain ⟨⟨l1, l2⟩, l3⟩ := h2
        obtain ⟨k, hk⟩ : ∃ k : Nat, kOf (Z.getD 0 0) = k := ⟨(kOf (Z.getD 0 0)).toNat, by unfold kOf; split <;> omega⟩
        have hk1 : 1 ≤ k ∧ k ≤ 8 := by unfold kOf at hk; split at hk <;> omega
        rw [hk] at l1 l2 l3 h
        rw [Int.toNat_natCast] at l3 h
        have low : ∀ neg, (k : Int) ≤ 1 ∨ ¬ WireAppend.flip neg (Z.getD 1 0) = 0 → k = 1 ∨ 256 ^ (k - 1) ≤ vh neg Z k := fun neg h => by
          rcases h with h | h
          · exact Or.inl (by omega)
          · have := vh_low neg Z hb h (k - 1)
            rw [show k - 1 + 1 = k by omega] at this
            exact Or.inr this
        by_cases hn : Z.getD 0 0 < 8
        · rw [decide_eq_true hn] at l2 l3
          rw [if_pos hn] at h
          cases h
          have r := vh_range true Z hb k
          have hcnt := cnt_is (vh true Z k) k hk1.1 hk1.2 r.1 r.2 (low true l2)
          have e := be_vh true Z hb k (by omega)
          have hkc : 8 - (k : Int) = Z.getD 0 0 := by unfold kOf at hk; rw [if_pos hn] at hk; omega
          rw [enc_neg _ (by omega), show -121 - (-121 - vh true Z k) = vh true Z k by omega, hcnt, Int.toNat_natCast, e]
          refine ⟨⟨by omega, by omega⟩, ?_, ?_⟩
          · rw [List.length_cons, List.length_take, List.length_drop]; omega
          · rw [hkc, show ((k : Int) + 1).toNat = 1 + k by omega, ← List.drop_drop, List.cons_append, List.take_append_drop]
            exact hz
        · rw [decide_eq_false hn] at l2 l3
          rw [if_neg hn] at h
          cases h
          have r := vh_range false Z hb k
          have hcnt := cnt_is (vh false Z k) k hk1.1 hk1.2 r.1 r.2 (low false l2)
          have e := be_vh false Z hb k (by omega)
          have hkc : 247 + (k : Int) = Z.getD 0 0 := by unfold kOf at hk; rw [if_neg hn] at hk; omega
          rw [enc_pos _ (by omega), show vh false Z k + 120 - 120 = vh false Z k by omega, hcnt, Int.toNat_natCast, e]
          refine ⟨⟨by omega, by omega⟩, ?_, ?_⟩
          · rw [List.length_cons, List.length_take, List.length_drop]; omega
          · rw [hkc, show ((k : Int) + 1).toNat = 1 + k by omega, ← List.drop_drop, List.cons_append, List.take_append_drop]
            exact hz
      · cases h

theorem be_getD (f : Int → Int) (V : Int) (k : Nat) (R : List Int) : ∀ j, j < k → (be f V k ++ R).getD j 0 = f (V / 256 ^ (k - 1 - j) % 256) := by
  induction k with
  | zero => intro j hj; omega
  | succ k ih =>
    intro j hj
    cases j with
    | zero => rfl
    | succ j =>
      show (be f V k ++ R).getD j 0 = _
      rw [ih j (by omega), show k + 1 - 1 - (j + 1) = k - 1 - j by omega]

theorem vh_be (neg : Bool) (h V : Int) (k : Nat) (R : List Int) (h0 : 0 ≤ V) (h1 : V < 256 ^ k) : ∀ j, j ≤ k → vh neg (h :: be (WireAppend.flip neg) V k ++ R) j = V / 256 ^ (k - j) := by
  intro j
  induction j with
  | zero =>
    intro _
    show (0 : Int) = V / 256 ^ k
    exact (Int.ediv_eq_zero_of_lt h0 h1).symm
  | succ j ih =>
    intro hj
    show vh neg (h :: be (WireAppend.flip neg) V k ++ R) j * 256 + WireAppend.flip neg ((be (WireAppend.flip neg) V k ++ R).getD j 0) = _
    rw [ih (by omega), be_getD (WireAppend.flip neg) V k R j (by omega), flip_flip, show k - j = (k - 1 - j) + 1 by omega, show k - (j + 1) = k - 1 - j by omega]
    have e : V / 256 ^ (k - 1 - j + 1) = V / 256 ^ (k - 1 - j) / 256 := by
      have hp : (0 : Int) < 256 ^ (k - 1 - j) := Int.pow_pos (by decide)
      rw [Int.pow_succ, Int.ediv_ediv, if_neg (fun h => by omega), Int.sub_zero]
    rw [e]
    omega

theorem dec_wide (neg : Bool) (V : Int) (R : List Int) (h0 : 0 ≤ V) (h1 : V ≤ 9223372036854775687) (c : Int) (hc : c = if neg then 8 - cnt V else 247 + cnt V) :
    dec (c :: be (WireAppend.flip neg) V (cnt V).toNat ++ R) = some (if neg then -121 - V else V + 120, cnt V + 1) := by
  have r := cnt_range V h0 (by omega)
  obtain ⟨k, hk⟩ : ∃ k : Nat, cnt V = k := ⟨(cnt V).toNat, by omega⟩
  have hp := cnt_pow V (by omega)
  have hl := fun h => cnt_low V h h0 (by omega)
  rw [hk, Int.toNat_natCast] at hp hl
  rw [hk] at hc r
  rw [hk, Int.toNat_natCast]
  have hV : vh neg (c :: be (WireAppend.flip neg) V k ++ R) k = V := by
    rw [vh_be neg c V k R h0 hp k (Nat.le_refl _), Nat.sub_self, Int.pow_zero, Int.ediv_one]
  have hg0 : (c :: be (WireAppend.flip neg) V k ++ R).getD 0 0 = c := rfl
  have hneg : decide (c < 8) = neg := by cases neg <;> simp at hc ⊢ <;> omega
  have hkof : kOf c = k := by unfold kOf; cases neg <;> simp at hc ⊢ <;> omega
  have hout : ¬ (8 ≤ c ∧ c ≤ 247) := by cases neg <;> simp at hc ⊢ <;> omega
  have hlen : (c :: be (WireAppend.flip neg) V k ++ R).length = k + 1 + R.length := by simp [be_length]; omega
  have hlead : (k : Int) ≤ 1 ∨ ¬ WireAppend.flip neg ((c :: be (WireAppend.flip neg) V k ++ R).getD 1 0) = 0 := by
    by_cases h : (k : Int) ≤ 1
    · exact Or.inl h
    · refine Or.inr ?_
      show ¬ WireAppend.flip neg ((be (WireAppend.flip neg) V k ++ R).getD 0 0) = 0
      rw [be_getD (WireAppend.flip neg) V k R 0 (by omega), flip_flip, Nat.sub_zero]
      have h3 := hl (by omega)
      have hp' : V < 256 ^ (k - 1) * 256 := by
        have : (256 : Int) ^ (k - 1) * 256 = 256 ^ k := by rw [← Int.pow_succ, show (k - 1).succ = k by omega]
        omega
      have hp0 : (0 : Int) < 256 ^ (k - 1) := Int.pow_pos (by decide)
      have q1 : 1 ≤ V / 256 ^ (k - 1) := Int.le_ediv_of_mul_le hp0 (by omega)
      have q2 : V / 256 ^ (k - 1) < 256 := Int.ediv_lt_of_lt_mul hp0 (by rw [Int.mul_comm]; exact hp')
      omega
  have hok : ok (c :: be (WireAppend.flip neg) V k ++ R) = true := by
    unfold ok
    rw [hg0, hkof, hneg, Int.toNat_natCast, hV, hlen, decide_eq_true (by omega), decide_eq_true h1, Bool.and_true, Bool.true_and]
    rcases hlead with h | h
    · rw [decide_eq_true h]; rfl
    · rw [decide_eq_false h]; simp
  unfold dec
  rw [if_neg (by rw [hlen]; omega), hg0, if_neg hout, hok, if_pos rfl, hkof, Int.toNat_natCast]
  cases neg
  · rw [if_neg (by simpa using hneg), hV]; rfl
  · rw [if_pos (by simpa using hneg), hV]; rfl

/-- What is written is read. -/
theorem enc_dec (n : Int) (hn : isI n) (R : List Int) : dec (enc n ++ R) = some (n, (((enc n).length : Nat) : Int)) := by
  obtain ⟨n1, n2⟩ := hn
  by_cases c1 : n < -120
  · have r := cnt_range (-121 - n) (by omega) (by omega)
    rw [enc_neg n c1, dec_wide true (-121 - n) R (by omega) (by omega) (8 - cnt (-121 - n)) rfl]
    congr 2
    · simp; omega
    · rw [List.length_cons, be_length]; omega
  · by_cases c2 : n ≤ 119
    · rw [enc_one n (by omega) c2]
      unfold dec
      rw [if_neg (by simp), if_pos (by show 8 ≤ n + 128 ∧ n + 128 ≤ 247; omega)]
      show some (n + 128 - 128, (1 : Int)) = _
      rw [show n + 128 - 128 = n by omega]
      rfl
    · have r := cnt_range (n - 120) (by omega) (by omega)
      rw [enc_pos n (by omega), dec_wide false (n - 120) R (by omega) (by omega) (247 + cnt (n - 120)) rfl]
      congr 2
      · simp
      · rw [List.length_cons, be_length]; omega

end Go.Proofs.Ytcibkgmochikmaa.WireCode
