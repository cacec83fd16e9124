/- The reference's 'integer'. -/
import Derived.Test.YtcibkgmochikmaaWireRS
import Derived.Test.YtcibkgmochikmaaWireRef
namespace Go.Proofs.Ytcibkgmochikmaa.WireRInt
set_option linter.unusedVariables false
open Go.RowKit Go.Proofs.Ytcibkgmochikmaa.WireBase Go.Proofs.Ytcibkgmochikmaa.WireInt Go.Proofs.Ytcibkgmochikmaa.WireAppend Go.Proofs.Ytcibkgmochikmaa.WireRead Go.Proofs.Ytcibkgmochikmaa.WireParse Go.Proofs.Ytcibkgmochikmaa.WireSrc Go.Proofs.Ytcibkgmochikmaa.WireRef Go.Proofs.Ytcibkgmochikmaa.WireCanon

/-- What 'integer' returns. -/
def Found (A : Option Addr) (n cap : Nat) (R : Option (Int × Int)) (e : Ending) : Prop :=
  (R = none ∧ e = .returned (.tuple #[.int .i64 0, .slice none 0 0, .bool false])) ∨
  (∃ m s A' c', R = some (m, s) ∧ e = .returned (.tuple #[.int .i64 m, .slice A' (n - s.toNat) c', .bool true]) ∧ Cut A cap s.toNat A' c')

theorem ref_empty (A : Option Addr) (cap : Nat) (w : World) :
    Calls Try.prog 65 #[.slice A 0 cap] w fun e w' => e = .returned (.tuple #[.int .i64 0, .slice none 0 0, .bool false]) ∧ Below w.heap.size w w' := by
  go_enter Try.func65, Try.ntmps65
  go_wp2
  refine bodyPost_ret (v := .tuple #[.int .i64 0, .slice none 0 0, .bool false]) (by simp [results, Try.results65, go_sem]) rfl ⟨rfl, Below.refl _ _⟩

set_option maxHeartbeats 1000000 in
theorem ref_single (p0 o0 n cap : Nat) (c : Int) (w : World) (hn : 0 < n) (hcap : (n : Int) ≤ cap) (hc : (cap : Int) ≤ 9223372036854775807) (h0 : w.cell? ⟨p0, o0, none⟩ = some (.int .u8 c)) (h1 : 8 ≤ c) (h2 : c ≤ 247) :
    Calls Try.prog 65 #[.slice (some ⟨p0, o0, none⟩) n cap] w fun e w' => Found (some ⟨p0, o0, none⟩) n cap (some (c - 128, 1)) e ∧ Below w.heap.size w w' := by
  have hn' : (((n : Nat) : Int) == 0) = false := beq_eq_false_iff_ne.2 (by omega)
  have hn1 : (1 : Int) ≤ ((n : Nat) : Int) := by omega
  go_enter Try.func65, Try.ntmps65
  go_wp2_with (fail)
  by_cases hcp : cap = 1
  · subst hcp
    go_region
    go_wp2
    refine bodyPost_ret (v := .tuple #[.int .i64 (c - 128), .slice (some ⟨p0, o0, none⟩) (n - 1) 0, .bool true]) (by simp [results, Try.results65, go_sem]) rfl ⟨Or.inr ⟨_, 1, _, _, rfl, rfl, Or.inr ⟨rfl, rfl, rfl⟩⟩, (Below.refl _ _).drew⟩
  · go_region
    go_wp2
    refine bodyPost_ret (v := .tuple #[.int .i64 (c - 128), .slice (some ⟨p0, o0 + 1, none⟩) (n - 1) (cap - 1), .bool true]) (by simp [results, Try.results65, go_sem]) rfl ⟨Or.inr ⟨_, 1, _, _, rfl, rfl, Or.inl ⟨by simp [add_plain], rfl⟩⟩, (Below.refl _ _).drew⟩

/-- What the walk of 'integer' is told. -/
structure RTold (k : Nat) (U D : Nat → Int) : Prop where
  zero : U 1 = 0
  next : ∀ i, 1 ≤ i → i ≤ 8 → bits .or .u64 (U i * 256) (D i) = U (i + 1)
  small : ∀ i, 1 ≤ i → i ≤ 8 → 0 ≤ U i ∧ U i < 72057594037927936
  top : 0 ≤ U (k + 1) ∧ U (k + 1) < 18446744073709551616
  digit : ∀ i, 0 ≤ D i ∧ D i ≤ 255

set_option maxHeartbeats 4000000 in
theorem ref_neg (p0 o0 n cap k : Nat) (c : Int) (Z U D : Nat → Int) (R : Option (Int × Int)) (E : Int → List Int) (w : World) (hn : 0 < n) (hcap : (n : Int) ≤ cap) (hcp : (cap : Int) ≤ 9223372036854775807) (HC : Hid (∀ w1, Below w.heap.size w w1 → ∀ i, i < n → w1.cell? ⟨p0, o0 + i, none⟩ = some (.int .u8 (Z i)))) (h0 : w.cell? ⟨p0, o0, none⟩ = some (.int .u8 c)) (h1 : c < 8) (hc0 : 0 ≤ c) (hk : 8 - c = k) (hk1 : 1 ≤ k) (hk8 : k ≤ 8)
    (HD : Hid (∀ i, 255 - Z i = D i)) (HT : Hid (RTold k U D)) (HR1 : Hid (n < k + 1 → R = none)) (HR2 : Hid (k + 1 ≤ n → 9223372036854775687 < U (k + 1) → R = none)) (HR3 : Hid (k + 1 ≤ n → ∀ x, x = U (k + 1) → x ≤ 9223372036854775687 → (E (-121 - x)).length ≠ k + 1 → R = none)) (HR4 : Hid (k + 1 ≤ n → ∀ x, x = U (k + 1) → x ≤ 9223372036854775687 → (E (-121 - x)).length = k + 1 → R = some (-121 - x, (k : Int) + 1)))
    (HI : Hid (∀ x w, 0 ≤ x → x ≤ 9223372036854775687 → Calls Try.prog 14 #[.slice none 0 0, .int .i64 (-121 - x)] w fun e w' => ∃ A c, e = .returned (.slice A (E (-121 - x)).length c) ∧ Below w.heap.size w w')) :
    Calls Try.prog 65 #[.slice (some ⟨p0, o0, none⟩) n cap] w fun e w' => Found (some ⟨p0, o0, none⟩) n cap R e ∧ Below w.heap.size w w' := by
  have hn' : (((n : Nat) : Int) == 0) = false := beq_eq_false_iff_ne.2 (by omega)
  have HK := Lib.hid hk
  have hk18 : 1 ≤ 8 - c ∧ 8 - c ≤ 8 := by omega
  clear hk
  by_cases hlen : n < k + 1
  · have HR := Lib.hid (HR1.out hlen)
    have hlt : ((n : Nat) : Int) < 1 + (8 - c) := by have := HK.out; omega
    go_enter Try.func65, Try.ntmps65
    go_wp2
    refine bodyPost_ret (v := .tuple #[.int .i64 0, .slice none 0 0, .bool false]) (by simp [results, Try.results65, go_sem]) rfl ⟨Or.inl ⟨HR.out, rfl⟩, Below.refl _ _⟩
  · have hge : 1 + (8 - c) ≤ ((n : Nat) : Int) := by have := HK.out; omega
    have HLE := Lib.hid (show k + 1 ≤ n by omega)
    have hlt0 : ¬ ((n : Nat) : Int) < 1 + (8 - c) := by omega
    go_enter Try.func65, Try.ntmps65
    go_wp2_with (fail)
    go_loopw [7, 8, 9] (fun s7 s8 s9 wr => ∃ (i : Nat) (x : Int), s7 = .int .u64 x ∧ Hid (x = U i) ∧ s8 = .int .i64 i ∧ 1 ≤ i ∧ i ≤ k + 1 ∧ wr = w) (fun _ s8 _ _ => 16 - (intOf s8).toNat)
    case atStart => exact ⟨1, 0, rfl, Lib.hid HT.out.zero.symm, rfl, by omega, by omega, rfl⟩
    case round =>
      obtain ⟨i, x, rfl, HV, rfl, hi1, hik, rfl⟩ := hrel
      by_cases hlt : i < k + 1
      · have hik2 : ((i : Nat) : Int) ≤ 8 - c := by have := HK.out; omega
        have hcell := HC.out wr (Below.refl _ _) i (by have := HLE.out; omega)
        have hs := HT.out.small i hi1 (by omega)
        have hnx := HT.out.next i hi1 (by omega)
        have hdd := HT.out.digit i
        have hdv := HD.out i
        rw [← HV.out] at hs hnx
        rw [← hdv] at hnx hdd
        obtain ⟨y, hy⟩ : ∃ y, y = U (i + 1) := ⟨_, rfl⟩
        rw [← hy] at hnx
        have HY := Lib.hid hy
        clear hy hdv
        generalize Z i = z at *
        go_wp2
        go_roundw
        case rel => exact ⟨i + 1, y, by first | rfl | simp [hnx], HY, by go_num, by omega, by omega, trivial⟩
        case measure => simp [intOf]; omega
      · obtain rfl : i = k + 1 := by omega
        have hik2 : ((k + 1 : Nat) : Int) = (8 - c) + 1 := by have := HK.out; omega
        have hik3 : (8 - c) < ((k + 1 : Nat) : Int) := by omega
        have htop := HT.out.top
        rw [← HV.out] at htop
        generalize ((k + 1 : Nat) : Int) = kk at *
        by_cases hg : 9223372036854775687 < x
        · have HR := Lib.hid (HR2.out HLE.out (by rw [← HV.out]; exact hg))
          go_wp2
          refine bodyPost_ret (v := .tuple #[.int .i64 0, .slice none 0 0, .bool false]) (by simp [results, Try.results65, go_sem]) rfl ⟨Or.inl ⟨HR.out, rfl⟩, Below.refl _ _⟩
        · have hx1 : x ≤ 9223372036854775687 := by omega
          have HRB := Lib.hid (HR3.out HLE.out x HV.out hx1)
          have HRG := Lib.hid (HR4.out HLE.out x HV.out hx1)
          go_wp2_with (fail)
          refine (HI.out x _ htop.1 hx1).mono ?_
          rintro e w1 ⟨AE, cE, rfl, b1⟩
          have B1 := Lib.hid b1
          clear b1
          generalize (E (-121 - x)).length = L at *
          by_cases hL : L = k + 1
          · have HRR := Lib.hid (HRG.out hL)
            have hL2 : ((L : Nat) : Int) = 1 + (8 - c) := by have := HK.out; omega
            have hnl : 1 + (8 - c) ≤ ((cap : Nat) : Int) := by omega
            have ht2 : (1 + (8 - c)).toNat = k + 1 := by have := HK.out; omega
            have ht3 : ((k : Nat) + 1 : Int).toNat = k + 1 := by omega
            clear hL HRG HRB
            go_wp2_with (fail)
            by_cases hcc : cap = k + 1
            · subst hcc
              go_region
              go_wp2
              refine bodyPost_ret (v := .tuple #[.int .i64 (-121 - x), .slice (some ⟨p0, o0, none⟩) (n - (k + 1)) 0, .bool true]) (by simp [results, Try.results65, go_sem]) rfl ⟨Or.inr ⟨_, (k : Int) + 1, _, _, HRR.out, by rw [ht3], by rw [ht3]; exact Or.inr ⟨rfl, rfl, rfl⟩⟩, B1.out.drew⟩
            · go_region
              go_wp2
              refine bodyPost_ret (v := .tuple #[.int .i64 (-121 - x), .slice (some ⟨p0, o0 + (k + 1), none⟩) (n - (k + 1)) (cap - (k + 1)), .bool true]) (by simp [results, Try.results65, go_sem]) rfl ⟨Or.inr ⟨_, (k : Int) + 1, _, _, HRR.out, by rw [ht3], by rw [ht3]; exact Or.inl ⟨by simp [add_plain], rfl⟩⟩, B1.out.drew⟩
          · have HRR := Lib.hid (HRB.out hL)
            have hL2 : (((L : Nat) : Int) == 1 + (8 - c)) = false := beq_eq_false_iff_ne.2 (by have := HK.out; omega)
            have hL3 : (((L : Nat) : Int) != 1 + (8 - c)) = true := by simpa using hL2
            clear hL HRB HRG
            go_wp2
            refine bodyPost_ret (v := .tuple #[.int .i64 0, .slice none 0 0, .bool false]) (by simp [results, Try.results65, go_sem]) rfl ⟨Or.inl ⟨HRR.out, rfl⟩, B1.out⟩

set_option maxHeartbeats 4000000 in
theorem ref_pos (p0 o0 n cap k : Nat) (c : Int) (Z U D : Nat → Int) (R : Option (Int × Int)) (E : Int → List Int) (w : World) (hn : 0 < n) (hcap : (n : Int) ≤ cap) (hcp : (cap : Int) ≤ 9223372036854775807) (HC : Hid (∀ w1, Below w.heap.size w w1 → ∀ i, i < n → w1.cell? ⟨p0, o0 + i, none⟩ = some (.int .u8 (Z i)))) (h0 : w.cell? ⟨p0, o0, none⟩ = some (.int .u8 c)) (h1 : 247 < c) (hc0 : c ≤ 255) (hk : c - 247 = k) (hk1 : 1 ≤ k) (hk8 : k ≤ 8)
    (HD : Hid (∀ i, Z i = D i)) (HT : Hid (RTold k U D)) (HR1 : Hid (n < k + 1 → R = none)) (HR2 : Hid (k + 1 ≤ n → 9223372036854775687 < U (k + 1) → R = none)) (HR3 : Hid (k + 1 ≤ n → ∀ x, x = U (k + 1) → x ≤ 9223372036854775687 → (E (x + 120)).length ≠ k + 1 → R = none)) (HR4 : Hid (k + 1 ≤ n → ∀ x, x = U (k + 1) → x ≤ 9223372036854775687 → (E (x + 120)).length = k + 1 → R = some (x + 120, (k : Int) + 1)))
    (HI : Hid (∀ x w, 0 ≤ x → x ≤ 9223372036854775687 → Calls Try.prog 14 #[.slice none 0 0, .int .i64 (x + 120)] w fun e w' => ∃ A c, e = .returned (.slice A (E (x + 120)).length c) ∧ Below w.heap.size w w')) :
    Calls Try.prog 65 #[.slice (some ⟨p0, o0, none⟩) n cap] w fun e w' => Found (some ⟨p0, o0, none⟩) n cap R e ∧ Below w.heap.size w w' := by
  have hn' : (((n : Nat) : Int) == 0) = false := beq_eq_false_iff_ne.2 (by omega)
  have HK := Lib.hid hk
  have hk18 : 1 ≤ c - 247 ∧ c - 247 ≤ 8 := by omega
  clear hk
  by_cases hlen : n < k + 1
  · have HR := Lib.hid (HR1.out hlen)
    have hlt : ((n : Nat) : Int) < 1 + (c - 247) := by have := HK.out; omega
    go_enter Try.func65, Try.ntmps65
    go_wp2
    refine bodyPost_ret (v := .tuple #[.int .i64 0, .slice none 0 0, .bool false]) (by simp [results, Try.results65, go_sem]) rfl ⟨Or.inl ⟨HR.out, rfl⟩, Below.refl _ _⟩
  · have hge : 1 + (c - 247) ≤ ((n : Nat) : Int) := by have := HK.out; omega
    have HLE := Lib.hid (show k + 1 ≤ n by omega)
    have hlt0 : ¬ ((n : Nat) : Int) < 1 + (c - 247) := by omega
    go_enter Try.func65, Try.ntmps65
    go_wp2_with (fail)
    go_loopw [7, 8, 9] (fun s7 s8 s9 wr => ∃ (i : Nat) (x : Int), s7 = .int .u64 x ∧ Hid (x = U i) ∧ s8 = .int .i64 i ∧ 1 ≤ i ∧ i ≤ k + 1 ∧ wr = w) (fun _ s8 _ _ => 16 - (intOf s8).toNat)
    case atStart => exact ⟨1, 0, rfl, Lib.hid HT.out.zero.symm, rfl, by omega, by omega, rfl⟩
    case round =>
      obtain ⟨i, x, rfl, HV, rfl, hi1, hik, rfl⟩ := hrel
      by_cases hlt : i < k + 1
      · have hik2 : ((i : Nat) : Int) ≤ c - 247 := by have := HK.out; omega
        have hcell := HC.out wr (Below.refl _ _) i (by have := HLE.out; omega)
        have hs := HT.out.small i hi1 (by omega)
        have hnx := HT.out.next i hi1 (by omega)
        have hdd := HT.out.digit i
        have hdv := HD.out i
        rw [← HV.out] at hs hnx
        rw [← hdv] at hnx hdd
        obtain ⟨y, hy⟩ : ∃ y, y = U (i + 1) := ⟨_, rfl⟩
        rw [← hy] at hnx
        have HY := Lib.hid hy
        clear hy hdv
        generalize Z i = z at *
        go_wp2
        go_roundw
        case rel => exact ⟨i + 1, y, by first | rfl | simp [hnx], HY, by go_num, by omega, by omega, trivial⟩
        case measure => simp [intOf]; omega
      · obtain rfl : i = k + 1 := by omega
        have hik2 : ((k + 1 : Nat) : Int) = (c - 247) + 1 := by have := HK.out; omega
        have hik3 : (c - 247) < ((k + 1 : Nat) : Int) := by omega
        have htop := HT.out.top
        rw [← HV.out] at htop
        generalize ((k + 1 : Nat) : Int) = kk at *
        by_cases hg : 9223372036854775687 < x
        · have HR := Lib.hid (HR2.out HLE.out (by rw [← HV.out]; exact hg))
          go_wp2
          refine bodyPost_ret (v := .tuple #[.int .i64 0, .slice none 0 0, .bool false]) (by simp [results, Try.results65, go_sem]) rfl ⟨Or.inl ⟨HR.out, rfl⟩, Below.refl _ _⟩
        · have hx1 : x ≤ 9223372036854775687 := by omega
          have HRB := Lib.hid (HR3.out HLE.out x HV.out hx1)
          have HRG := Lib.hid (HR4.out HLE.out x HV.out hx1)
          go_wp2_with (fail)
          refine (HI.out x _ htop.1 hx1).mono ?_
          rintro e w1 ⟨AE, cE, rfl, b1⟩
          have B1 := Lib.hid b1
          clear b1
          generalize (E (x + 120)).length = L at *
          by_cases hL : L = k + 1
          · have HRR := Lib.hid (HRG.out hL)
            have hL2 : ((L : Nat) : Int) = 1 + (c - 247) := by have := HK.out; omega
            have hnl : 1 + (c - 247) ≤ ((cap : Nat) : Int) := by omega
            have ht2 : (1 + (c - 247)).toNat = k + 1 := by have := HK.out; omega
            have ht3 : ((k : Nat) + 1 : Int).toNat = k + 1 := by omega
            clear hL HRG HRB
            go_wp2_with (fail)
            by_cases hcc : cap = k + 1
            · subst hcc
              go_region
              go_wp2
              refine bodyPost_ret (v := .tuple #[.int .i64 (x + 120), .slice (some ⟨p0, o0, none⟩) (n - (k + 1)) 0, .bool true]) (by simp [results, Try.results65, go_sem]) rfl ⟨Or.inr ⟨_, (k : Int) + 1, _, _, HRR.out, by rw [ht3], by rw [ht3]; exact Or.inr ⟨rfl, rfl, rfl⟩⟩, B1.out.drew⟩
            · go_region
              go_wp2
              refine bodyPost_ret (v := .tuple #[.int .i64 (x + 120), .slice (some ⟨p0, o0 + (k + 1), none⟩) (n - (k + 1)) (cap - (k + 1)), .bool true]) (by simp [results, Try.results65, go_sem]) rfl ⟨Or.inr ⟨_, (k : Int) + 1, _, _, HRR.out, by rw [ht3], by rw [ht3]; exact Or.inl ⟨by simp [add_plain], rfl⟩⟩, B1.out.drew⟩
          · have HRR := Lib.hid (HRB.out hL)
            have hL2 : (((L : Nat) : Int) == 1 + (c - 247)) = false := beq_eq_false_iff_ne.2 (by have := HK.out; omega)
            have hL3 : (((L : Nat) : Int) != 1 + (c - 247)) = true := by simpa using hL2
            clear hL HRB HRG
            go_wp2
            refine bodyPost_ret (v := .tuple #[.int .i64 0, .slice none 0 0, .bool false]) (by simp [results, Try.results65, go_sem]) rfl ⟨Or.inl ⟨HRR.out, rfl⟩, B1.out⟩

end Go.Proofs.Ytcibkgmochikmaa.WireRInt
