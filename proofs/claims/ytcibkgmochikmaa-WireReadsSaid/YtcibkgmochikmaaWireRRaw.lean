/- The reference's 'integer' for all bytes, and 'raw'. -/
import Derived.Test.YtcibkgmochikmaaWireRInt
namespace Go.Proofs.Ytcibkgmochikmaa.WireRRaw
set_option linter.unusedVariables false
open Go.RowKit Go.Proofs.Ytcibkgmochikmaa.WireBase Go.Proofs.Ytcibkgmochikmaa.WireInt Go.Proofs.Ytcibkgmochikmaa.WireAppend Go.Proofs.Ytcibkgmochikmaa.WireOrd Go.Proofs.Ytcibkgmochikmaa.WireRead Go.Proofs.Ytcibkgmochikmaa.WireParse Go.Proofs.Ytcibkgmochikmaa.WireCode Go.Proofs.Ytcibkgmochikmaa.WireRef Go.Proofs.Ytcibkgmochikmaa.WireCanon Go.Proofs.Ytcibkgmochikmaa.WireRInt Go.Proofs.Ytcibkgmochikmaa.WireRd Go.Proofs.Ytcibkgmochikmaa.WireMeth
open Go.Proofs.Ytcibkgmochikmaa.WireSrc (Only Cut)

theorem vh_small (neg : Bool) (Z : List Int) (hb : Bytes Z) (h : WireAppend.flip neg (Z.getD 1 0) = 0) (i : Nat) : vh neg Z (i + 1) < 256 ^ i := by
  induction i with
  | zero =>
    show 0 * 256 + WireAppend.flip neg (Z.getD 1 0) < (256 : Int) ^ 0
    have : (256 : Int) ^ 0 = 1 := rfl
    omega
  | succ i ih =>
    have d := flip_range neg _ (getD_byte Z hb (i + 1 + 1))
    show vh neg Z (i + 1) * 256 + WireAppend.flip neg (Z.getD (i + 1 + 1) 0) < (256 : Int) ^ (i + 1)
    rw [Int.pow_succ]
    omega

theorem nil_int (n : Int) (w : World) (hn : isI n) :
    Calls Try.prog 14 #[.slice none 0 0, .int .i64 n] w fun e w' => ∃ A c, e = .returned (.slice A (enc n).length c) ∧ Below w.heap.size w w' := by
  refine (refInt_any none 0 [] n w (fun h => by cases h) (by decide) hn).mono ?_
  rintro e w' ⟨v, rfl, hown, b⟩
  obtain ⟨A, c, rfl, l⟩ := own_lies hown
  exact ⟨A, c, rfl, b⟩

theorem integer_any (A : Option Addr) (cap : Nat) (Z : List Int) (w : World) (hl : Lies w .u8 w.heap.size A Z) (hb : Bytes Z) (hcap : Z.length ≤ cap) (hcp : (cap : Int) ≤ 9223372036854775807) :
    Calls Try.prog 65 #[.slice A Z.length cap] w fun e w' => WireRInt.Found A Z.length cap (dec Z) e ∧ Below w.heap.size w w' := by
  by_cases h0 : Z.length = 0
  · have hd : dec Z = none := by unfold dec; rw [if_pos h0]
    rw [h0, hd]
    refine (ref_empty A cap w).mono ?_
    rintro e w' ⟨rfl, b⟩
    exact ⟨Or.inl ⟨rfl, rfl⟩, b⟩
  · obtain ⟨ad, rfl, hlt, hcell⟩ := hl (by omega)
    obtain ⟨p0, o0, spot⟩ := ad
    have hspot : spot = none := by
      have := World.cell?_spot (hcell 0 (by omega))
      simpa [Addr.add] using this
    subst hspot
    have hc : ∀ w1, Below w.heap.size w w1 → ∀ i, i < Z.length → w1.cell? ⟨p0, o0 + i, none⟩ = some (.int .u8 (Z.getD i 0)) := fun w1 b1 i hi => by
      have := hcell i hi
      rw [add_plain] at this
      exact (b1.cell (p := ⟨p0, o0 + i, none⟩) hlt).trans this
    have hc0 : w.cell? ⟨p0, o0, none⟩ = some (.int .u8 (Z.getD 0 0)) := hc w (Below.refl _ _) 0 (by omega)
    have hr := getD_byte Z hb 0
    by_cases h1 : 8 ≤ Z.getD 0 0 ∧ Z.getD 0 0 ≤ 247
    · have hd : dec Z = some (Z.getD 0 0 - 128, 1) := by unfold dec; rw [if_neg h0, if_pos h1]
      rw [hd]
      exact ref_single p0 o0 Z.length cap _ w (by omega) (by omega) hcp hc0 h1.1 h1.2
    · have main : ∀ (neg : Bool) (k : Nat), 1 ≤ k → k ≤ 8 → kOf (Z.getD 0 0) = (k : Int) → decide (Z.getD 0 0 < 8) = neg →
          RTold k (fun i => vh neg Z (i - 1)) (fun i => WireAppend.flip neg (Z.getD i 0)) ∧ (Z.length < k + 1 → dec Z = none) ∧ (k + 1 ≤ Z.length → 9223372036854775687 < vh neg Z k → dec Z = none) ∧
          (k + 1 ≤ Z.length → vh neg Z k ≤ 9223372036854775687 → cnt (vh neg Z k) ≠ k → dec Z = none) ∧ (k + 1 ≤ Z.length → vh neg Z k ≤ 9223372036854775687 → cnt (vh neg Z k) = k → dec Z = some (if Z.getD 0 0 < 8 then -121 - vh true Z k else vh false Z k + 120, (k : Int) + 1)) := fun neg k hk1 hk8 hk hneg => by
        have T := told neg Z hb (by omega) k hk1 hk8 hk hneg h1
        have r := vh_range neg Z hb k
        refine ⟨⟨rfl, fun i h1 h2 => ?_, fun i h1 h2 => T.small (i - 1) (by omega), T.top, fun i => flip_range neg _ (getD_byte Z hb i)⟩, fun h => T.short (k - 1) (by omega) (by omega), T.great, fun h2 h3 h4 => ?_, fun h2 h3 h4 => T.good h2 ?_ h3⟩
        · have := T.next (i - 1) (by omega)
          rw [show i - 1 + 1 = i by omega] at this
          exact this
        · by_cases hk2 : k = 1
          · exact absurd (cnt_is _ k hk1 hk8 r.1 r.2 (Or.inl hk2)) h4
          · by_cases hd : WireAppend.flip neg (Z.getD 1 0) = 0
            · exact T.lead (by omega) hd
            · have := vh_low neg Z hb hd (k - 1)
              rw [show k - 1 + 1 = k by omega] at this
              exact absurd (cnt_is _ k hk1 hk8 r.1 r.2 (Or.inr this)) h4
        · by_cases hk2 : k = 1
          · exact Or.inl hk2
          · refine Or.inr fun hd => ?_
            have h5 := vh_small neg Z hb hd (k - 1)
            rw [show k - 1 + 1 = k by omega] at h5
            have h6 := cnt_low (vh neg Z k) (by omega) r.1 (by omega)
            rw [h4, Int.toNat_natCast] at h6
            omega
      by_cases h2 : Z.getD 0 0 < 8
      · obtain ⟨k, hk⟩ : ∃ k : Nat, kOf (Z.getD 0 0) = k := ⟨(kOf (Z.getD 0 0)).toNat, by unfold kOf; rw [if_pos h2]; omega⟩
        have hk' : 8 - Z.getD 0 0 = k := by unfold kOf at hk; rwa [if_pos h2] at hk
        obtain ⟨m1, m2, m3, m4, m5⟩ := main true k (by omega) (by omega) hk (decide_eq_true h2)
        rw [if_pos h2] at m5
        have he : ∀ x : Int, 0 ≤ x → x ≤ 9223372036854775687 → ((enc (-121 - x)).length = k + 1 ↔ cnt x = k) := fun x h0 h1 => by
          have := cnt_range x h0 (by omega)
          rw [enc_neg _ (by omega), List.length_cons, be_length, show -121 - (-121 - x) = x by omega]
          omega
        have r := vh_range true Z hb k
        exact ref_neg p0 o0 Z.length cap k _ (fun i => Z.getD i 0) _ _ (dec Z) enc w (by omega) (by omega) hcp (Lib.hid hc) hc0 h2 hr.1 hk' (by omega) (by omega) (Lib.hid fun i => rfl) (Lib.hid m1) (Lib.hid m2) (Lib.hid m3)
          (Lib.hid fun h x hx hxm hL => m4 h (hx ▸ hxm) fun hh => hL ((he x (hx ▸ r.1) hxm).2 (hx ▸ hh))) (Lib.hid fun h x hx hxm hL => by have := m5 h (hx ▸ hxm) (hx ▸ (he x (hx ▸ r.1) hxm).1 hL); rw [hx]; exact this)
          (Lib.hid fun x w h0 h1 => nil_int _ w ⟨by omega, by omega⟩)
      · obtain ⟨k, hk⟩ : ∃ k : Nat, kOf (Z.getD 0 0) = k := ⟨(kOf (Z.getD 0 0)).toNat, by unfold kOf; rw [if_neg h2]; omega⟩
        have hk' : Z.getD 0 0 - 247 = k := by unfold kOf at hk; rwa [if_neg h2] at hk
        obtain ⟨m1, m2, m3, m4, m5⟩ := main false k (by omega) (by omega) hk (decide_eq_false h2)
        rw [if_neg h2] at m5
        have he : ∀ x : Int, 0 ≤ x → x ≤ 9223372036854775687 → ((enc (x + 120)).length = k + 1 ↔ cnt x = k) := fun x h0 h1 => by
          have := cnt_range x h0 (by omega)
          rw [enc_pos _ (by omega), List.length_cons, be_length, show x + 120 - 120 = x by omega]
          omega
        have r := vh_range false Z hb k
        exact ref_pos p0 o0 Z.length cap k _ (fun i => Z.getD i 0) _ _ (dec Z) enc w (by omega) (by omega) hcp (Lib.hid hc) hc0 (by omega) hr.2 hk' (by omega) (by omega) (Lib.hid fun i => rfl) (Lib.hid m1) (Lib.hid m2) (Lib.hid m3)
          (Lib.hid fun h x hx hxm hL => m4 h (hx ▸ hxm) fun hh => hL ((he x (hx ▸ r.1) hxm).2 (hx ▸ hh))) (Lib.hid fun h x hx hxm hL => by have := m5 h (hx ▸ hxm) (hx ▸ (he x (hx ▸ r.1) hxm).1 hL); rw [hx]; exact this)
          (Lib.hid fun x w h0 h1 => nil_int _ w ⟨by omega, by omega⟩)

end Go.Proofs.Ytcibkgmochikmaa.WireRRaw
