/- The law DigestChanges: what a changed byte does to a digest, and the law for every input. -/
import Derived.Test.YtpgkgagmdjhojaaDigChanges
import Derived.Laws.BitsAllLaws
namespace Go.Proofs.Ytpgkgagmdjhojaa.DigChanges
set_option linter.unusedVariables false
open Go.RowKit Go.Proofs.Ytpgkgagmdjhojaa.DigMul Go.Proofs.Ytpgkgagmdjhojaa.DigExt Go.Proofs.Ytpgkgagmdjhojaa.DigSeal Go.Proofs.Ytpgkgagmdjhojaa.DigAwake Go.Proofs.Ytpgkgagmdjhojaa.DigParts

theorem times_inj (d e : Int) (hd : 0 ≤ d ∧ d < 2305843009213693951) (he : 0 ≤ e ∧ e < 2305843009213693951) (h : d * 1000003 % 2305843009213693951 = e * 1000003 % 2305843009213693951) : d = e := by
  have key : ∀ t : Int, t * 1000003 * 1229363429801019168 % 2305843009213693951 = t % 2305843009213693951 := by
    intro t
    rw [Int.mul_assoc, Int.mul_emod, show (1000003 * 1229363429801019168 : Int) % 2305843009213693951 = 1 by decide, Int.mul_one, Int.emod_emod]
  have h3 : d * 1000003 * 1229363429801019168 % 2305843009213693951 = e * 1000003 * 1229363429801019168 % 2305843009213693951 := by
    rw [Int.mul_emod, h, ← Int.mul_emod]
  rwa [key, key, Int.emod_eq_of_lt hd.1 hd.2, Int.emod_eq_of_lt he.1 he.2] at h3

theorem ext_inj (l : List Int) : ∀ d e, (0 ≤ d ∧ d < 2305843009213693951) → (0 ≤ e ∧ e < 2305843009213693951) → ext d l = ext e l → d = e := by
  induction l with
  | nil => exact fun d e _ _ h => h
  | cons c l ih =>
    intro d e hd he h
    have h' : ext ((d * 1000003 + c + 1) % 2305843009213693951) l = ext ((e * 1000003 + c + 1) % 2305843009213693951) l := h
    have := ih _ _ ⟨Int.emod_nonneg _ (by decide), Int.emod_lt_of_pos _ (by decide)⟩ ⟨Int.emod_nonneg _ (by decide), Int.emod_lt_of_pos _ (by decide)⟩ h'
    refine times_inj d e hd he (Int.emod_eq_emod_iff_emod_sub_eq_zero.2 ?_)
    rw [show d * 1000003 - e * 1000003 = d * 1000003 + c + 1 - (e * 1000003 + c + 1) by omega]
    exact Int.emod_eq_emod_iff_emod_sub_eq_zero.1 this

theorem parted (Z : List Int) (k : Nat) (h : k < Z.length) : Z = Z.take k ++ Z.getD k 0 :: Z.drop (k + 1) := by
  have : Z.getD k 0 = Z[k] := by simp [List.getD, h]
  rw [this, List.getElem_cons_drop, List.take_append_drop]

theorem parted_set (Z : List Int) (k : Nat) (x : Int) (h : k < Z.length) : Z.set k x = Z.take k ++ x :: Z.drop (k + 1) := List.set_eq_take_append_cons_drop.trans (if_pos h)

theorem ext_at (A B : List Int) (c : Int) : ext 0 (A ++ c :: B) = ext ((ext 0 A * 1000003 + c + 1) % 2305843009213693951) B := by
  unfold ext
  rw [List.foldl_append]
  rfl

theorem change_byte (Z : List Int) (k : Nat) (x : Int) (h : k < Z.length) (hZ : Bytes Z) (hx : 0 ≤ x ∧ x ≤ 255) : ext 0 (Z.set k x) = ext 0 Z ↔ x = Z.getD k 0 := by
  have hc := hZ _ (getD_mem Z k h)
  refine ⟨fun e => ?_, fun e => ?_⟩
  · rw [parted_set Z k x h] at e
    have p := parted Z k h
    have e' : ext 0 (Z.take k ++ x :: Z.drop (k + 1)) = ext 0 (Z.take k ++ Z.getD k 0 :: Z.drop (k + 1)) := by rw [e, ← p]
    rw [ext_at, ext_at] at e'
    have := ext_inj _ _ _ ⟨Int.emod_nonneg _ (by decide), Int.emod_lt_of_pos _ (by decide)⟩ ⟨Int.emod_nonneg _ (by decide), Int.emod_lt_of_pos _ (by decide)⟩ e'
    generalize ext 0 (Z.take k) = t at this
    omega
  · rw [parted_set Z k x h, e, ← parted Z k h]

theorem swap_num (t c d : Int) (hc : 0 ≤ c ∧ c ≤ 255) (hd : 0 ≤ d ∧ d ≤ 255) (h : ((t * 1000003 + d + 1) % 2305843009213693951 * 1000003 + c + 1) % 2305843009213693951 = ((t * 1000003 + c + 1) % 2305843009213693951 * 1000003 + d + 1) % 2305843009213693951) : c = d := by
  rw [show (t * 1000003 + d + 1) % 2305843009213693951 * 1000003 + c + 1 = (t * 1000003 + d + 1) % 2305843009213693951 * 1000003 + (c + 1) from Int.add_assoc _ _ _, show (t * 1000003 + c + 1) % 2305843009213693951 * 1000003 + d + 1 = (t * 1000003 + c + 1) % 2305843009213693951 * 1000003 + (d + 1) from Int.add_assoc _ _ _, mod_left, mod_left] at h
  have h2 := Int.emod_eq_emod_iff_emod_sub_eq_zero.1 h
  have e : (t * 1000003 + d + 1) * 1000003 + (c + 1) - ((t * 1000003 + c + 1) * 1000003 + (d + 1)) = (d - c) * 1000002 := by
    clear h h2
    omega
  rw [e] at h2
  clear h e
  omega

theorem swap_bytes (Z : List Int) (k : Nat) (h : k + 1 < Z.length) (hZ : Bytes Z) : ext 0 ((Z.set k (Z.getD (k + 1) 0)).set (k + 1) (Z.getD k 0)) = ext 0 Z ↔ Z.getD k 0 = Z.getD (k + 1) 0 := by
  have hc := hZ _ (getD_mem Z k (by omega))
  have hd := hZ _ (getD_mem Z (k + 1) h)
  have p1 := parted Z k (by omega)
  have p2 : Z.drop (k + 1) = Z.getD (k + 1) 0 :: Z.drop (k + 2) := by
    have : Z.getD (k + 1) 0 = Z[k + 1] := by simp [List.getD, h]
    rw [this, List.getElem_cons_drop]
  have p3 : (Z.set k (Z.getD (k + 1) 0)).set (k + 1) (Z.getD k 0) = Z.take k ++ Z.getD (k + 1) 0 :: Z.getD k 0 :: Z.drop (k + 2) := by
    rw [parted_set Z k _ (by omega), p2]
    have hl : (Z.take k).length = k := by rw [List.length_take]; omega
    rw [List.set_append, if_neg (by omega), hl, show k + 1 - k = 1 by omega]
    rfl
  have q1 : ext 0 Z = ext 0 (Z.take k ++ Z.getD k 0 :: Z.getD (k + 1) 0 :: Z.drop (k + 2)) := by rw [← p2, ← p1]
  refine ⟨fun e => ?_, fun e => ?_⟩
  · rw [p3, q1, ext_at, ext_at] at e
    have step : ∀ (t a : Int) (l : List Int), ext t (a :: l) = ext ((t * 1000003 + a + 1) % 2305843009213693951) l := fun _ _ _ => rfl
    rw [step, step] at e
    have := ext_inj _ _ _ ⟨Int.emod_nonneg _ (by decide), Int.emod_lt_of_pos _ (by decide)⟩ ⟨Int.emod_nonneg _ (by decide), Int.emod_lt_of_pos _ (by decide)⟩ e
    exact swap_num _ _ _ hc hd this
  · rw [p3, q1, e]

theorem xor_zero_iff (c b : Int) (hc : 0 ≤ c ∧ c ≤ 255) (hb : 0 ≤ b ∧ b ≤ 255) : (0 ≤ bits .xor .u8 c b ∧ bits .xor .u8 c b ≤ 255) ∧ (bits .xor .u8 c b = c ↔ b = 0) := by
  rw [u8_xor c b hc.1 (by omega) hb.1 (by omega)]
  have hlt : c.toNat ^^^ b.toNat < 2 ^ 8 := Nat.xor_lt_two_pow (by omega) (by omega)
  refine ⟨by omega, fun h => ?_, fun h => ?_⟩
  · have h1 : c.toNat ^^^ b.toNat = c.toNat := by omega
    have h2 : c.toNat ^^^ (c.toNat ^^^ b.toNat) = b.toNat := by rw [← Nat.xor_assoc, Nat.xor_self, Nat.zero_xor]
    rw [h1, Nat.xor_self] at h2
    omega
  · subst h
    simp
    omega

theorem set_bytes (Z : List Int) (k : Nat) (x : Int) (h : Bytes Z) (hx : 0 ≤ x ∧ x ≤ 255) : Bytes (Z.set k x) := fun n hn => by
  rcases List.mem_or_eq_of_mem_set hn with h1 | rfl
  · exact h n h1
  · exact hx

set_option maxHeartbeats 1000000 in
theorem changes_out (w : World) (A0 : Option Addr) (c0 n : Nat) (at' by' : Int) (h : (100 : Int) < n ∨ n = 0) :
    Calls Try.prog 7 #[.slice A0 n c0, .int .u8 at', .int .u8 by'] w fun e w' => e = .returned (.bool true) ∧ Below w.heap.size w w' := by
  rcases h with h | rfl
  · go_enter Try.func7, Try.ntmps7
    go_wp2_with (fail)
    refine (awake_any _).mono ?_
    rintro e w1 ⟨rfl, b1⟩
    go_wp2
    go_ret
    exact ⟨rfl, b1⟩
  · go_enter Try.func7, Try.ntmps7
    go_wp2_with (fail)
    refine (awake_any _).mono ?_
    rintro e w1 ⟨rfl, b1⟩
    go_wp2
    go_ret
    exact ⟨rfl, b1⟩

theorem walk (w : World) (A0 : Option Addr) (c0 : Nat) (Z : List Int) (hZ : Lies w .u8 w.heap.size A0 Z) (bZ : ∀ n ∈ Z, (Lit.int .u8 n).wf = true) (kZ : Z.length ≤ c0 ∧ c0 ≤ maxLen) (nZ : A0 = none → c0 = 0)
    (at' : Int) (ha : (Lit.int .u8 at').wf = true) (by' : Int) (hb : (Lit.int .u8 by').wf = true) :
    Calls Try.prog 7 #[.slice A0 Z.length c0, .int .u8 at', .int .u8 by'] w fun e w' => e = .returned (.bool true) ∧ Below w.heap.size w w' := by
  by_cases h : Z.length ≤ 100 ∧ 0 < Z.length
  · obtain ⟨hl, h0⟩ := h
    have a1 := bounds_u8 ha
    have b1 := bounds_u8 hb
    have bb := bytes_of bZ
    obtain ⟨ad, rfl, hlt, hcell⟩ := hZ h0
    obtain ⟨p0, o0, spot⟩ := ad
    have hspot : spot = none := by
      have := World.cell?_spot (hcell 0 h0)
      simpa [Addr.add] using this
    subst hspot
    have hkn : (at'.toNat % Z.length) < Z.length := Nat.mod_lt _ h0
    have hk : at' % ((Z.length : Nat) : Int) = ((at'.toNat % Z.length : Nat) : Int) := by
      rw [Int.natCast_emod, Int.toNat_of_nonneg (by omega)]
    generalize at'.toNat % Z.length = k at *
    have hc := bb _ (getD_mem Z k hkn)
    have hx := xor_zero_iff (Z.getD k 0) by' hc (by omega)
    have hch := change_byte Z k (bits .xor .u8 (Z.getD k 0) by') hkn bb hx.1
    have hd : 0 ≤ Z.getD (k + 1) 0 ∧ Z.getD (k + 1) 0 ≤ 255 := by
      by_cases h2 : k + 1 < Z.length
      · exact bb _ (getD_mem Z (k + 1) h2)
      · have : Z.getD (k + 1) 0 = 0 := by simp [List.getD, show ¬ k + 1 < Z.length from h2]
        omega
    refine changes_in w p0 o0 c0 Z at' by' _ _ _ _ _ _ k hZ bb (by omega) (by omega) (by omega) (by omega) hk hkn rfl rfl rfl rfl rfl rfl (set_bytes Z k _ bb hx.1) (set_bytes _ _ _ (set_bytes Z k _ bb hd) hc) (by' == 0) (Z.getD k 0 == Z.getD (k + 1) 0) ⟨rfl, ?_⟩ ?_
    · by_cases hb0 : by' = 0
      · rw [show (by' == 0) = true by simp [hb0], beq_iff_eq]; exact hch.2 (hx.2.2 hb0)
      · rw [show (by' == 0) = false from beq_eq_false_iff_ne.2 hb0]; exact beq_eq_false_iff_ne.2 fun e => hb0 (hx.2.1 (hch.1 e))
    · by_cases h2 : k + 1 < Z.length
      · have hsw := swap_bytes Z k h2 bb
        refine Or.inr ⟨h2, beq_eq_false_iff_ne.2 (by omega), rfl, ?_⟩
        by_cases hcd : Z.getD k 0 = Z.getD (k + 1) 0
        · rw [show (Z.getD k 0 == Z.getD (k + 1) 0) = true from beq_iff_eq.2 hcd, beq_iff_eq]; exact hsw.2 hcd
        · rw [show (Z.getD k 0 == Z.getD (k + 1) 0) = false from beq_eq_false_iff_ne.2 hcd]; exact beq_eq_false_iff_ne.2 fun e => hcd (hsw.1 e)
      · exact Or.inl (by rw [beq_iff_eq]; omega)
  · exact changes_out w A0 c0 _ at' by' (by omega)

end Go.Proofs.Ytpgkgagmdjhojaa.DigChanges
