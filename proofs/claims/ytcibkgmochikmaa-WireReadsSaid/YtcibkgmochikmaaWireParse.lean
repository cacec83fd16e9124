/- Reading an integer: 'parse' for all bytes. -/
import Derived.Test.YtcibkgmochikmaaWireRead
import Derived.Test.YtcibkgmochikmaaWireOrd
namespace Go.Proofs.Ytcibkgmochikmaa.WireParse
set_option linter.unusedVariables false
open Go.RowKit Go.Proofs.Ytcibkgmochikmaa.WireBase Go.Proofs.Ytcibkgmochikmaa.WireInt Go.Proofs.Ytcibkgmochikmaa.WireAppend Go.Proofs.Ytcibkgmochikmaa.WireRead

theorem or_byte (x d : Int) (hx : 0 ≤ x ∧ x < 72057594037927936) (hd : 0 ≤ d ∧ d ≤ 255) : bits .or .u64 (x * 256) d = x * 256 + d := by
  rw [u64_or (x * 256) d (by omega) (by omega) (by omega) (by omega)]
  have e : (x * 256).toNat ||| d.toNat = x.toNat * 256 + d.toNat := by
    have := Nat.shiftLeft_add_eq_or_of_lt (show d.toNat < 2 ^ 8 by omega) x.toNat
    rw [Nat.shiftLeft_eq] at this
    rw [show (x * 256).toNat = x.toNat * 2 ^ 8 by omega, ← this]
  rw [e]
  omega

theorem getD_byte (Z : List Int) (hb : Bytes Z) (i : Nat) : 0 ≤ Z.getD i 0 ∧ Z.getD i 0 ≤ 255 := by
  by_cases h : i < Z.length
  · exact hb _ (getD_mem Z i h)
  · have : Z.getD i 0 = 0 := by simp [List.getD, Nat.le_of_not_lt h]
    omega

theorem vh_range (neg : Bool) (Z : List Int) (hb : Bytes Z) (i : Nat) : 0 ≤ vh neg Z i ∧ vh neg Z i < 256 ^ i := by
  induction i with
  | zero => exact ⟨Int.le_refl 0, by show (0 : Int) < 256 ^ 0; decide⟩
  | succ i ih =>
    have d := flip_range neg _ (getD_byte Z hb (i + 1))
    show 0 ≤ vh neg Z i * 256 + flip neg (Z.getD (i + 1) 0) ∧ vh neg Z i * 256 + flip neg (Z.getD (i + 1) 0) < 256 ^ (i + 1)
    rw [Int.pow_succ]
    generalize (256 : Int) ^ i = p at *
    omega

theorem pow_le (i j : Nat) (h : i ≤ j) : (256 : Int) ^ i ≤ 256 ^ j := by
  have := Nat.pow_le_pow_right (show 0 < 256 by decide) h
  have c : ((256 ^ i : Nat) : Int) ≤ ((256 ^ j : Nat) : Int) := Int.ofNat_le.2 this
  simpa using c

theorem told (neg : Bool) (Z : List Int) (hb : Bytes Z) (h0 : 0 < Z.length) (k : Nat) (hk1 : 1 ≤ k) (hk8 : k ≤ 8) (hk : kOf (Z.getD 0 0) = k) (hneg : decide (Z.getD 0 0 < 8) = neg) (hout : ¬ (8 ≤ Z.getD 0 0 ∧ Z.getD 0 0 ≤ 247)) :
    WireRead.Told Z.length k (vh neg Z) (fun i => flip neg (Z.getD (i + 1) 0)) (dec Z) (if Z.getD 0 0 < 8 then -121 - vh true Z k else vh false Z k + 120) := by
  have small : ∀ i, i < 8 → 0 ≤ vh neg Z i ∧ vh neg Z i < 72057594037927936 := fun i hi => by
    have r := vh_range neg Z hb i
    have p := pow_le i 7 (by omega)
    rw [show (256 : Int) ^ 7 = 72057594037927936 by decide] at p
    omega
  have hkt : (kOf (Z.getD 0 0)).toNat = k := by omega
  have hdec : dec Z = if ok Z = true then some (if Z.getD 0 0 < 8 then -121 - vh true Z k else vh false Z k + 120, (k : Int) + 1) else none := by
    unfold dec
    rw [if_neg (by omega), if_neg hout, hkt, hk]
  have hok : ok Z = (decide ((k : Int) + 1 ≤ (Z.length : Int)) && (decide ((k : Int) ≤ 1) || !decide (flip neg (Z.getD 1 0) = 0)) && decide (vh neg Z k ≤ 9223372036854775687)) := by
    unfold ok
    rw [hkt, hk, hneg]
  refine ⟨rfl, fun i hi => ?_, small, ?_, fun i => flip_range neg _ (getD_byte Z hb (i + 1)), fun i h1 h2 => ?_, fun h1 h2 => ?_, fun h1 h2 => ?_, fun h1 h2 h3 => ?_⟩
  · exact or_byte _ _ (small i hi) (flip_range neg _ (getD_byte Z hb (i + 1)))
  · have r := vh_range neg Z hb k
    have p := pow_le k 8 hk8
    rw [show (256 : Int) ^ 8 = 18446744073709551616 by decide] at p
    omega
  · rw [hdec, if_neg]
    rw [hok, decide_eq_false (show ¬ ((k : Int) + 1 ≤ (Z.length : Int)) by omega)]
    simp
  · rw [hdec, if_neg]
    have h2' : flip neg (Z.getD 1 0) = 0 := h2
    rw [hok, decide_eq_false (show ¬ ((k : Int) ≤ 1) by omega), decide_eq_true h2']
    simp
  · rw [hdec, if_neg]
    rw [hok, decide_eq_false (show ¬ (vh neg Z k ≤ 9223372036854775687) by omega)]
    simp
  · rw [hdec, if_pos]
    have h2' : k = 1 ∨ flip neg (Z.getD 1 0) ≠ 0 := h2
    rw [hok, decide_eq_true (show (k : Int) + 1 ≤ (Z.length : Int) by omega), decide_eq_true h3]
    rcases h2' with h | h
    · rw [decide_eq_true (show (k : Int) ≤ 1 by omega)]; simp
    · rw [decide_eq_false h]; simp

theorem parse_any (A : Option Addr) (cap : Nat) (Z : List Int) (w : World) (hl : Lies w .u8 w.heap.size A Z) (hb : Bytes Z) :
    Calls Try.prog 62 #[.slice A Z.length cap] w fun e w' => e = .returned (parsed (dec Z)) ∧ w = w' := by
  by_cases h0 : Z.length = 0
  · have hd : parsed (dec Z) = .tuple #[.int .i64 0, .int .i64 0, .bool false] := by unfold dec; rw [if_pos h0]; rfl
    rw [h0, hd]
    exact parse_empty A cap w
  · obtain ⟨ad, rfl, hlt, hcell⟩ := hl (by omega)
    obtain ⟨p0, o0, spot⟩ := ad
    have hspot : spot = none := by
      have := World.cell?_spot (hcell 0 (by omega))
      simpa [Addr.add] using this
    subst hspot
    have hc : ∀ i, i < Z.length → w.cell? ⟨p0, o0 + i, none⟩ = some (.int .u8 (Z.getD i 0)) := fun i hi => by
      have := hcell i hi
      rwa [add_plain] at this
    have hc0 : w.cell? ⟨p0, o0, none⟩ = some (.int .u8 (Z.getD 0 0)) := hc 0 (by omega)
    have hr := getD_byte Z hb 0
    by_cases h1 : 8 ≤ Z.getD 0 0 ∧ Z.getD 0 0 ≤ 247
    · have hd : dec Z = some (Z.getD 0 0 - 128, 1) := by unfold dec; rw [if_neg h0, if_pos h1]
      rw [hd]
      exact parse_single p0 o0 Z.length cap _ w (by omega) hc0 h1.1 h1.2
    · by_cases h2 : Z.getD 0 0 < 8
      · obtain ⟨k, hk⟩ : ∃ k : Nat, kOf (Z.getD 0 0) = k := ⟨(kOf (Z.getD 0 0)).toNat, by unfold kOf; rw [if_pos h2]; omega⟩
        have hk' : 8 - Z.getD 0 0 = k := by unfold kOf at hk; rwa [if_pos h2] at hk
        have T := told true Z hb (by omega) k (by omega) (by omega) hk (decide_eq_true h2) h1
        rw [if_pos h2] at T
        exact parse_neg p0 o0 Z.length cap k _ (fun i => Z.getD i 0) _ _ (dec Z) w (by omega) (Lib.hid hc) hc0 hr.1 hr.2 h2 hk' (by omega) (by omega) (Lib.hid fun i => xor_flip true _ (getD_byte Z hb (i + 1))) (Lib.hid T)
      · obtain ⟨k, hk⟩ : ∃ k : Nat, kOf (Z.getD 0 0) = k := ⟨(kOf (Z.getD 0 0)).toNat, by unfold kOf; rw [if_neg h2]; omega⟩
        have hk' : Z.getD 0 0 - 247 = k := by unfold kOf at hk; rwa [if_neg h2] at hk
        have T := told false Z hb (by omega) k (by omega) (by omega) hk (decide_eq_false h2) h1
        rw [if_neg h2] at T
        exact parse_pos p0 o0 Z.length cap k _ (fun i => Z.getD i 0) _ _ (dec Z) w (by omega) (Lib.hid hc) hc0 hr.1 hr.2 (by omega) hk' (by omega) (by omega) (Lib.hid fun i => xor_flip false _ (getD_byte Z hb (i + 1))) (Lib.hid T)

end Go.Proofs.Ytcibkgmochikmaa.WireParse
