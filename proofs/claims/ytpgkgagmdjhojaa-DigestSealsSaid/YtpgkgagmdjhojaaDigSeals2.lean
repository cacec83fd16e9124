/- The law DigestSeals for every input. -/
import Derived.Test.YtpgkgagmdjhojaaDigSeals
namespace Go.Proofs.Ytpgkgagmdjhojaa.DigSeals
set_option linter.unusedVariables false
open Go.RowKit Go.Proofs.Ytpgkgagmdjhojaa.DigMul Go.Proofs.Ytpgkgagmdjhojaa.DigExt Go.Proofs.Ytpgkgagmdjhojaa.DigSeal Go.Proofs.Ytpgkgagmdjhojaa.DigAwake Go.Proofs.Ytpgkgagmdjhojaa.DigParts Go.Proofs.Ytpgkgagmdjhojaa.DigOpen Go.Proofs.Ytpgkgagmdjhojaa.DigSame Go.Proofs.Ytpgkgagmdjhojaa.DigChanges

theorem down (a d e : Int) (ha : 0 < a) (h1 : d / (a * 256) = e / (a * 256)) (h2 : d / a % 256 = e / a % 256) : d / a = e / a := by
  have k : ∀ t : Int, t / a / 256 = t / (a * 256) := fun t => by
    rw [Int.ediv_ediv, if_neg (fun h => by omega), Int.sub_zero]
  rw [← k, ← k] at h1
  omega

theorem sumB_inj (d e : Int) (h : sumB d = sumB e) : d = e := by
  unfold sumB at h
  simp only [List.cons.injEq, and_true] at h
  obtain ⟨h0, h1, h2, h3, h4, h5, h6, h7⟩ := h
  have s1 := down 281474976710656 d e (by decide) h0 h1
  have s2 := down 1099511627776 d e (by decide) s1 h2
  have s3 := down 4294967296 d e (by decide) s2 h3
  have s4 := down 16777216 d e (by decide) s3 h4
  have s5 := down 65536 d e (by decide) s4 h5
  have s6 := down 256 d e (by decide) s5 h6
  clear h0 h1 h2 h3 h4 h5 h6 s1 s2 s3 s4 s5
  omega

set_option maxHeartbeats 1000000 in
theorem seals_out (w : World) (A0 : Option Addr) (c0 n : Nat) (at' by' : Int) (h : (100 : Int) < n) :
    Calls Try.prog 9 #[.slice A0 n c0, .int .u8 at', .int .u8 by'] w fun e w' => e = .returned (.bool true) ∧ Below w.heap.size w w' := by
  go_enter Try.func9, Try.ntmps9
  go_wp2_with (fail)
  refine (awake_any _).mono ?_
  rintro e w1 ⟨rfl, b1⟩
  go_wp2
  go_ret
  exact ⟨rfl, b1⟩

theorem walk (w : World) (A0 : Option Addr) (c0 : Nat) (Z : List Int) (hZ : Lies w .u8 w.heap.size A0 Z) (bZ : ∀ n ∈ Z, (Lit.int .u8 n).wf = true) (kZ : Z.length ≤ c0 ∧ c0 ≤ maxLen) (nZ : A0 = none → c0 = 0)
    (at' : Int) (ha : (Lit.int .u8 at').wf = true) (by' : Int) (hb : (Lit.int .u8 by').wf = true) :
    Calls Try.prog 9 #[.slice A0 Z.length c0, .int .u8 at', .int .u8 by'] w fun e w' => e = .returned (.bool true) ∧ Below w.heap.size w w' := by
  by_cases h : Z.length ≤ 100
  · have a1 := bounds_u8 ha
    have b1 := bounds_u8 hb
    have bb := bytes_of bZ
    have hr := ext_range Z 0 (by decide) (by decide)
    have bsum := sumB_bytes _ hr.1 hr.2
    have hs8 : (sumB (ext 0 Z)).length = 8 := rfl
    have hlen : (Z ++ sumB (ext 0 Z)).length = Z.length + 8 := by rw [List.length_append, hs8]
    have bS : Bytes (Z ++ sumB (ext 0 Z)) := fun n hn => (List.mem_append.1 hn).elim (bb n) (bsum n)
    have hkn : (at'.toNat % (Z.length + 8)) < Z.length + 8 := Nat.mod_lt _ (by omega)
    have hk : at' % ((Z.length + 8 : Nat) : Int) = ((at'.toNat % (Z.length + 8) : Nat) : Int) := by
      rw [Int.natCast_emod, Int.toNat_of_nonneg (by omega)]
    generalize at'.toNat % (Z.length + 8) = k at *
    have hc := bS _ (getD_mem (Z ++ sumB (ext 0 Z)) k (by omega))
    have hx := xor_zero_iff ((Z ++ sumB (ext 0 Z)).getD k 0) by' hc (by omega)
    have hgap : ∀ f, (f = 0 ∧ by' = 0) ∨ (f = 5 ∧ by' ≠ 0) → Hid (∀ w1 g q, Lies w1 .u8 w1.heap.size (some ⟨g, 0, none⟩) ((Z ++ sumB (ext 0 Z)).set k (bits .xor .u8 ((Z ++ sumB (ext 0 Z)).getD k 0) by')) → Z.length + 8 ≤ q → Calls Try.prog 13 #[.slice (some ⟨g, 0, none⟩) (Z.length + 8) q] w1 fun e w' => ∃ v, e = .returned (.tuple #[v, .int .i64 f]) ∧ Below w1.heap.size w1 w') := by
      intro f hf
      refine Lib.hid fun w1 g q hl hq => ?_
      rcases hf with ⟨rfl, h0⟩ | ⟨rfl, h0⟩
      · rw [hx.2.2 h0, parted_set _ k _ (by omega), ← parted _ k (by omega)] at hl
        refine (open_ok g 0 q (Z.length + 8) Z w1 hl bb rfl hq (by omega)).mono ?_
        rintro e w' ⟨v, he, _, b⟩
        exact ⟨v, he, b⟩
      · have hne : bits .xor .u8 ((Z ++ sumB (ext 0 Z)).getD k 0) by' ≠ (Z ++ sumB (ext 0 Z)).getD k 0 := fun e => h0 (hx.2.1 e)
        have hxr := hx.1
        generalize bits .xor .u8 ((Z ++ sumB (ext 0 Z)).getD k 0) by' = x at *
        by_cases hkz : k < Z.length
        · rw [List.set_append, if_pos hkz] at hl
          have hgd : (Z ++ sumB (ext 0 Z)).getD k 0 = Z.getD k 0 := by simp [List.getD, List.getElem?_append_left hkz]
          rw [hgd] at hne
          have hl2 : (Z.set k x).length = Z.length := List.length_set
          refine (open_bad g 0 q (Z.length + 8) (Z.set k x) (sumB (ext 0 Z)) w1 hl (set_bytes Z k x bb hxr) bsum rfl (by rw [hl2]) hq (by rw [hl2]; omega) ?_).mono ?_
          · intro e
            exact hne ((change_byte Z k x hkz bb hxr).1 (sumB_inj _ _ e).symm)
          · rintro e w' ⟨he, b⟩
            exact ⟨_, he, b⟩
        · rw [List.set_append, if_neg hkz] at hl
          have hj : k - Z.length < 8 := by omega
          have hgd : (Z ++ sumB (ext 0 Z)).getD k 0 = (sumB (ext 0 Z)).getD (k - Z.length) 0 := by simp [List.getD, List.getElem?_append_right (Nat.le_of_not_lt hkz)]
          rw [hgd] at hne
          refine (open_bad g 0 q (Z.length + 8) Z ((sumB (ext 0 Z)).set (k - Z.length) x) w1 hl bb (set_bytes _ _ x bsum hxr) (by rw [List.length_set]; rfl) rfl hq (by omega) ?_).mono ?_
          · intro e
            refine hne ?_
            have := congrArg (fun l => List.getD l (k - Z.length) 0) e
            simpa [List.getD, show k - Z.length < (sumB (ext 0 Z)).length from hj] using this
          · rintro e w' ⟨he, b⟩
            exact ⟨_, he, b⟩
    by_cases h0 : by' = 0
    · exact seals_in w A0 c0 Z _ at' by' _ _ 0 k (Z.length + 8) hZ bb (by omega) nZ rfl hlen (by omega) (by omega) (by omega) hk hkn rfl rfl (hgap 0 (Or.inl ⟨rfl, h0⟩)) (Or.inl ⟨h0, rfl⟩)
    · exact seals_in w A0 c0 Z _ at' by' _ _ 5 k (Z.length + 8) hZ bb (by omega) nZ rfl hlen (by omega) (by omega) (by omega) hk hkn rfl rfl (hgap 5 (Or.inr ⟨rfl, h0⟩)) (Or.inr ⟨h0, rfl⟩)
  · exact seals_out w A0 c0 _ at' by' (by omega)

end Go.Proofs.Ytpgkgagmdjhojaa.DigSeals
