/- Reading an integer: the walks of 'parse', 'within' and the method Int. -/
import Derived.Test.YtcibkgmochikmaaWireAppend
import Derived.WalkMore
import Derived.Deep.LoopGhost
namespace Go.Proofs.Ytcibkgmochikmaa.WireRead
set_option linter.unusedVariables false
open Go.RowKit Go.Proofs.Ytcibkgmochikmaa.WireBase Go.Proofs.Ytcibkgmochikmaa.WireInt Go.Proofs.Ytcibkgmochikmaa.WireAppend

/-- The number that the first i bytes behind the head have. -/
def vh (neg : Bool) (Z : List Int) : Nat → Int
  | 0 => 0
  | i + 1 => vh neg Z i * 256 + flip neg (Z.getD (i + 1) 0)

/-- The number of bytes behind a head, and whether they stand for a number below the single bytes. -/
def kOf (c : Int) : Int := if c < 8 then 8 - c else c - 247
def ok (Z : List Int) : Bool := decide (kOf (Z.getD 0 0) + 1 ≤ (Z.length : Int)) && (decide (kOf (Z.getD 0 0) ≤ 1) || !decide (flip (decide (Z.getD 0 0 < 8)) (Z.getD 1 0) = 0)) && decide (vh (decide (Z.getD 0 0 < 8)) Z (kOf (Z.getD 0 0)).toNat ≤ 9223372036854775687)
/-- What is read of some bytes: the integer and its length. -/
def dec (Z : List Int) : Option (Int × Int) :=
  if Z.length = 0 then none
  else if 8 ≤ Z.getD 0 0 ∧ Z.getD 0 0 ≤ 247 then some (Z.getD 0 0 - 128, 1)
  else if ok Z = true then some (if Z.getD 0 0 < 8 then -121 - vh true Z (kOf (Z.getD 0 0)).toNat else vh false Z (kOf (Z.getD 0 0)).toNat + 120, kOf (Z.getD 0 0) + 1)
  else none
def nOf (d : Option (Int × Int)) : Int := match d with | some (n, _) => n | none => 0
def sOf (d : Option (Int × Int)) : Int := match d with | some (_, s) => s | none => 0
def parsed (d : Option (Int × Int)) : Value := .tuple #[.int .i64 (nOf d), .int .i64 (sOf d), .bool d.isSome]

theorem parse_empty (A : Option Addr) (cap : Nat) (w : World) :
    Calls Try.prog 62 #[.slice A 0 cap] w fun e w' => e = .returned (.tuple #[.int .i64 0, .int .i64 0, .bool false]) ∧ w = w' := by
  go_enter Try.func62, Try.ntmps62
  go_wp2_with (fail)
  go_step3
  go_wp2
  try rw [Exit.noGoto_ret]
  refine bodyPost_ret (v := .tuple #[.int .i64 0, .int .i64 0, .bool false]) (by simp [results, Try.results62, go_sem]) rfl ⟨rfl, rfl⟩

theorem parse_single (p0 o0 n cap : Nat) (c : Int) (w : World) (hn : 0 < n) (h0 : w.cell? ⟨p0, o0, none⟩ = some (.int .u8 c)) (h1 : 8 ≤ c) (h2 : c ≤ 247) :
    Calls Try.prog 62 #[.slice (some ⟨p0, o0, none⟩) n cap] w fun e w' => e = .returned (.tuple #[.int .i64 (c - 128), .int .i64 1, .bool true]) ∧ w = w' := by
  have hn' : (0 : Int) < ((n : Nat) : Int) := by omega
  go_enter Try.func62, Try.ntmps62
  go_wp2_with (fail)
  go_step3
  go_wp2
  try rw [Exit.noGoto_ret]
  refine bodyPost_ret (v := .tuple #[.int .i64 (c - 128), .int .i64 1, .bool true]) (by simp [results, Try.results62, go_sem]) rfl ⟨rfl, rfl⟩


/-- What the walk of 'parse' is told. -/
structure Told (n k : Nat) (V D : Nat → Int) (R : Option (Int × Int)) (r : Int) : Prop where
  zero : V 0 = 0
  next : ∀ i, i < 8 → bits .or .u64 (V i * 256) (D i) = V (i + 1)
  small : ∀ i, i < 8 → 0 ≤ V i ∧ V i < 72057594037927936
  top : 0 ≤ V k ∧ V k < 18446744073709551616
  digit : ∀ i, 0 ≤ D i ∧ D i ≤ 255
  short : ∀ i, i < k → n ≤ i + 1 → R = none
  lead : 1 < k → D 0 = 0 → R = none
  great : k + 1 ≤ n → 9223372036854775687 < V k → R = none
  good : k + 1 ≤ n → (k = 1 ∨ D 0 ≠ 0) → V k ≤ 9223372036854775687 → R = some (r, (k : Int) + 1)

def failed : Value := .tuple #[.int .i64 0, .int .i64 0, .bool false]

set_option maxHeartbeats 4000000 in
theorem parse_neg (p0 o0 n cap k : Nat) (c : Int) (Z V D : Nat → Int) (R : Option (Int × Int)) (w : World) (hn : 0 < n) (HC : Hid (∀ i, i < n → w.cell? ⟨p0, o0 + i, none⟩ = some (.int .u8 (Z i)))) (h0 : w.cell? ⟨p0, o0, none⟩ = some (.int .u8 c)) (hc0 : 0 ≤ c) (hc1 : c ≤ 255) (h1 : c < 8) (hk : 8 - c = k) (hk1 : 1 ≤ k) (hk8 : k ≤ 8)
    (HX : Hid (∀ i, bits .xor .u8 (Z (i + 1)) 255 = D i)) (HT : Hid (Told n k V D R (-121 - V k))) :
    Calls Try.prog 62 #[.slice (some ⟨p0, o0, none⟩) n cap] w fun e w' => e = .returned (parsed R) ∧ w = w' := by
  have hn' : (((n : Nat) : Int) == 0) = false := beq_eq_false_iff_ne.2 (by omega)
  have hpk : (0 : Int) < 8 - c := by omega
  have HK := Lib.hid hk
  have HFAIL : Hid (R = none → parsed R = .tuple #[.int .i64 0, .int .i64 0, .bool false]) := Lib.hid fun h => by rw [h]; rfl
  clear hk
  go_enter Try.func62, Try.ntmps62
  go_wp2_with (fail)
  go_step3
  go_wp2_with (fail)
  go_step3
  go_wp2_with (fail)
  go_loopw [8, 9, 10] (fun s8 s9 s10 wr => ∃ (i : Nat) (x : Int), s8 = .int .u64 x ∧ Hid (x = V i) ∧ s9 = .int .i64 i ∧ i ≤ k ∧ i + 1 ≤ n ∧ Hid (i = 0 ∨ k = 1 ∨ D 0 ≠ 0) ∧ wr = w) (fun _ s9 _ _ => 16 - (intOf s9).toNat)
  case atStart => exact ⟨0, 0, rfl, Lib.hid HT.out.zero.symm, rfl, by omega, by omega, Lib.hid (Or.inl rfl), rfl⟩
  case round =>
    obtain ⟨i, x, rfl, HV, rfl, hik, hin, HL, rfl⟩ := hrel
    by_cases hlt : i < k
    · have hik2 : ((i : Nat) : Int) < 8 - c := by have := HK.out; omega
      by_cases hlen : n ≤ i + 1
      · have HR := Lib.hid (HFAIL.out (HT.out.short i hlt hlen))
        have hge : ((n : Nat) : Int) ≤ ((i : Nat) : Int) + 1 := by omega
        go_wp2
        try rw [Exit.noGoto_ret]
        refine bodyPost_ret (v := .tuple #[.int .i64 0, .int .i64 0, .bool false]) (by simp [results, Try.results62, go_sem]) rfl ⟨by rw [HR.out], rfl⟩
      · have hlt2 : ((i : Nat) : Int) + 1 < ((n : Nat) : Int) := by omega
        have hcell := HC.out (i + 1) (by omega)
        have hxor := HX.out i
        have hd := HT.out.digit i
        by_cases hz : i = 0 ∧ 1 < k ∧ D 0 = 0
        · obtain ⟨rfl, hk2, hd0⟩ := hz
          have HR := Lib.hid (HFAIL.out (HT.out.lead hk2 hd0))
          rw [hd0] at hxor
          have hpk1 : (1 : Int) < 8 - c := by have := HK.out; omega
          clear hd hd0 hlt
          go_wp2
          try rw [Exit.noGoto_ret]
          refine bodyPost_ret (v := .tuple #[.int .i64 0, .int .i64 0, .bool false]) (by simp [results, Try.results62, go_sem]) rfl ⟨by rw [HR.out], rfl⟩
        · have hs := HT.out.small i (by omega)
          have hnx := HT.out.next i (by omega)
          rw [← HV.out] at hs hnx
          have HL2 : Hid (i + 1 = 0 ∨ k = 1 ∨ D 0 ≠ 0) := Lib.hid (by
            rcases HL.out with h | h
            · rcases Nat.lt_or_ge 1 k with h1 | h1
              · exact Or.inr (Or.inr fun h3 => hz ⟨h, h1, h3⟩)
              · exact Or.inr (Or.inl (by omega))
            · exact Or.inr h)
          obtain ⟨y, hy⟩ : ∃ y, y = V (i + 1) := ⟨_, rfl⟩
          rw [← hy] at hnx
          have HY := Lib.hid hy
          clear hy
          rcases (show 0 < i ∨ (i = 0 ∧ 8 - c ≤ 1) ∨ (i = 0 ∧ 1 < 8 - c ∧ 0 < D i) by
            rcases Nat.eq_zero_or_pos i with h | h
            · rcases Nat.lt_or_ge 1 k with h1 | h1
              · refine Or.inr (Or.inr ⟨h, by have := HK.out; omega, ?_⟩)
                have : D i ≠ 0 := fun h3 => hz ⟨h, h1, by rw [h] at h3; exact h3⟩
                omega
              · exact Or.inr (Or.inl ⟨h, by have := HK.out; omega⟩)
            · exact Or.inl h) with hi | ⟨hi, hk3⟩ | ⟨hi, hk4, hd3⟩
          · have hi' : (((i : Nat) : Int) == 0) = false := beq_eq_false_iff_ne.2 (by omega)
            clear hz hi
            generalize D i = d at *
            go_wp2
            go_roundw
            case rel => exact ⟨i + 1, y, by first | rfl | simp [hnx], HY, by go_num, by omega, by omega, HL2, trivial⟩
            case measure => simp [intOf]; omega
          · have hi' : (((i : Nat) : Int) == 0) = true := beq_iff_eq.2 (by omega)
            clear hz hi
            generalize D i = d at *
            go_wp2
            go_roundw
            case rel => exact ⟨i + 1, y, by first | rfl | simp [hnx], HY, by go_num, by omega, by omega, HL2, trivial⟩
            case measure => simp [intOf]; omega
          · have hi' : (((i : Nat) : Int) == 0) = true := beq_iff_eq.2 (by omega)
            have hd4 : (D i == 0) = false := beq_eq_false_iff_ne.2 (by omega)
            clear hz hi
            generalize D i = d at *
            go_wp2
            go_roundw
            case rel => exact ⟨i + 1, y, by first | rfl | simp [hnx], HY, by go_num, by omega, by omega, HL2, trivial⟩
            case measure => simp [intOf]; omega
    · obtain rfl : i = k := by omega
      have hik2 : ((i : Nat) : Int) = 8 - c := by have := HK.out; omega
      have htop := HT.out.top
      rw [← HV.out] at htop
      by_cases hg : 9223372036854775687 < x
      · have HR := Lib.hid (HFAIL.out (HT.out.great hin (by rw [← HV.out]; exact hg)))
        go_wp2
        try rw [Exit.noGoto_ret]
        refine bodyPost_ret (v := .tuple #[.int .i64 0, .int .i64 0, .bool false]) (by simp [results, Try.results62, go_sem]) rfl ⟨by rw [HR.out], rfl⟩
      · have hor : i = 1 ∨ D 0 ≠ 0 := by rcases HL.out with h | h; · omega
                                         · exact h
        have HR : Hid (parsed R = .tuple #[.int .i64 (-121 - x), .int .i64 (8 - c + 1), .bool true]) := Lib.hid (by
          rw [HT.out.good hin hor (by rw [← HV.out]; omega), ← HV.out, hik2]
          unfold parsed nOf sOf
          simp <;> omega)
        clear hor
        go_wp2
        try rw [Exit.noGoto_ret]
        refine bodyPost_ret (v := .tuple #[.int .i64 (-121 - x), .int .i64 (8 - c + 1), .bool true]) (by simp [results, Try.results62, go_sem]) rfl ⟨by rw [HR.out], rfl⟩

set_option maxHeartbeats 4000000 in
theorem parse_pos (p0 o0 n cap k : Nat) (c : Int) (Z V D : Nat → Int) (R : Option (Int × Int)) (w : World) (hn : 0 < n) (HC : Hid (∀ i, i < n → w.cell? ⟨p0, o0 + i, none⟩ = some (.int .u8 (Z i)))) (h0 : w.cell? ⟨p0, o0, none⟩ = some (.int .u8 c)) (hc0 : 0 ≤ c) (hc1 : c ≤ 255) (h1 : 247 < c) (hk : c - 247 = k) (hk1 : 1 ≤ k) (hk8 : k ≤ 8)
    (HX : Hid (∀ i, bits .xor .u8 (Z (i + 1)) 0 = D i)) (HT : Hid (Told n k V D R (V k + 120))) :
    Calls Try.prog 62 #[.slice (some ⟨p0, o0, none⟩) n cap] w fun e w' => e = .returned (parsed R) ∧ w = w' := by
  have hn' : (((n : Nat) : Int) == 0) = false := beq_eq_false_iff_ne.2 (by omega)
  have hpk : (0 : Int) < c - 247 := by omega
  have HK := Lib.hid hk
  have HFAIL : Hid (R = none → parsed R = .tuple #[.int .i64 0, .int .i64 0, .bool false]) := Lib.hid fun h => by rw [h]; rfl
  clear hk
  go_enter Try.func62, Try.ntmps62
  go_wp2_with (fail)
  go_step3
  go_wp2_with (fail)
  go_step3
  go_wp2_with (fail)
  go_loopw [8, 9, 10] (fun s8 s9 s10 wr => ∃ (i : Nat) (x : Int), s8 = .int .u64 x ∧ Hid (x = V i) ∧ s9 = .int .i64 i ∧ i ≤ k ∧ i + 1 ≤ n ∧ Hid (i = 0 ∨ k = 1 ∨ D 0 ≠ 0) ∧ wr = w) (fun _ s9 _ _ => 16 - (intOf s9).toNat)
  case atStart => exact ⟨0, 0, rfl, Lib.hid HT.out.zero.symm, rfl, by omega, by omega, Lib.hid (Or.inl rfl), rfl⟩
  case round =>
    obtain ⟨i, x, rfl, HV, rfl, hik, hin, HL, rfl⟩ := hrel
    by_cases hlt : i < k
    · have hik2 : ((i : Nat) : Int) < c - 247 := by have := HK.out; omega
      by_cases hlen : n ≤ i + 1
      · have HR := Lib.hid (HFAIL.out (HT.out.short i hlt hlen))
        have hge : ((n : Nat) : Int) ≤ ((i : Nat) : Int) + 1 := by omega
        go_wp2
        try rw [Exit.noGoto_ret]
        refine bodyPost_ret (v := .tuple #[.int .i64 0, .int .i64 0, .bool false]) (by simp [results, Try.results62, go_sem]) rfl ⟨by rw [HR.out], rfl⟩
      · have hlt2 : ((i : Nat) : Int) + 1 < ((n : Nat) : Int) := by omega
        have hcell := HC.out (i + 1) (by omega)
        have hxor := HX.out i
        have hd := HT.out.digit i
        by_cases hz : i = 0 ∧ 1 < k ∧ D 0 = 0
        · obtain ⟨rfl, hk2, hd0⟩ := hz
          have HR := Lib.hid (HFAIL.out (HT.out.lead hk2 hd0))
          rw [hd0] at hxor
          have hpk1 : (1 : Int) < c - 247 := by have := HK.out; omega
          clear hd hd0 hlt
          go_wp2
          try rw [Exit.noGoto_ret]
          refine bodyPost_ret (v := .tuple #[.int .i64 0, .int .i64 0, .bool false]) (by simp [results, Try.results62, go_sem]) rfl ⟨by rw [HR.out], rfl⟩
        · have hs := HT.out.small i (by omega)
          have hnx := HT.out.next i (by omega)
          rw [← HV.out] at hs hnx
          have HL2 : Hid (i + 1 = 0 ∨ k = 1 ∨ D 0 ≠ 0) := Lib.hid (by
            rcases HL.out with h | h
            · rcases Nat.lt_or_ge 1 k with h1 | h1
              · exact Or.inr (Or.inr fun h3 => hz ⟨h, h1, h3⟩)
              · exact Or.inr (Or.inl (by omega))
            · exact Or.inr h)
          obtain ⟨y, hy⟩ : ∃ y, y = V (i + 1) := ⟨_, rfl⟩
          rw [← hy] at hnx
          have HY := Lib.hid hy
          clear hy
          rcases (show 0 < i ∨ (i = 0 ∧ c - 247 ≤ 1) ∨ (i = 0 ∧ 1 < c - 247 ∧ 0 < D i) by
            rcases Nat.eq_zero_or_pos i with h | h
            · rcases Nat.lt_or_ge 1 k with h1 | h1
              · refine Or.inr (Or.inr ⟨h, by have := HK.out; omega, ?_⟩)
                have : D i ≠ 0 := fun h3 => hz ⟨h, h1, by rw [h] at h3; exact h3⟩
                omega
              · exact Or.inr (Or.inl ⟨h, by have := HK.out; omega⟩)
            · exact Or.inl h) with hi | ⟨hi, hk3⟩ | ⟨hi, hk4, hd3⟩
          · have hi' : (((i : Nat) : Int) == 0) = false := beq_eq_false_iff_ne.2 (by omega)
            clear hz hi
            generalize D i = d at *
            go_wp2
            go_roundw
            case rel => exact ⟨i + 1, y, by first | rfl | simp [hnx], HY, by go_num, by omega, by omega, HL2, trivial⟩
            case measure => simp [intOf]; omega
          · have hi' : (((i : Nat) : Int) == 0) = true := beq_iff_eq.2 (by omega)
            clear hz hi
            generalize D i = d at *
            go_wp2
            go_roundw
            case rel => exact ⟨i + 1, y, by first | rfl | simp [hnx], HY, by go_num, by omega, by omega, HL2, trivial⟩
            case measure => simp [intOf]; omega
          · have hi' : (((i : Nat) : Int) == 0) = true := beq_iff_eq.2 (by omega)
            have hd4 : (D i == 0) = false := beq_eq_false_iff_ne.2 (by omega)
            clear hz hi
            generalize D i = d at *
            go_wp2
            go_roundw
            case rel => exact ⟨i + 1, y, by first | rfl | simp [hnx], HY, by go_num, by omega, by omega, HL2, trivial⟩
            case measure => simp [intOf]; omega
    · obtain rfl : i = k := by omega
      have hik2 : ((i : Nat) : Int) = c - 247 := by have := HK.out; omega
      have htop := HT.out.top
      rw [← HV.out] at htop
      by_cases hg : 9223372036854775687 < x
      · have HR := Lib.hid (HFAIL.out (HT.out.great hin (by rw [← HV.out]; exact hg)))
        go_wp2
        try rw [Exit.noGoto_ret]
        refine bodyPost_ret (v := .tuple #[.int .i64 0, .int .i64 0, .bool false]) (by simp [results, Try.results62, go_sem]) rfl ⟨by rw [HR.out], rfl⟩
      · have hor : i = 1 ∨ D 0 ≠ 0 := by rcases HL.out with h | h; · omega
                                         · exact h
        have HR : Hid (parsed R = .tuple #[.int .i64 (x + 119 + 1), .int .i64 (c - 247 + 1), .bool true]) := Lib.hid (by
          rw [HT.out.good hin hor (by rw [← HV.out]; omega), ← HV.out, hik2]
          unfold parsed nOf sOf
          simp <;> omega)
        clear hor
        go_wp2
        try rw [Exit.noGoto_ret]
        refine bodyPost_ret (v := .tuple #[.int .i64 (x + 119 + 1), .int .i64 (c - 247 + 1), .bool true]) (by simp [results, Try.results62, go_sem]) rfl ⟨by rw [HR.out], rfl⟩


end Go.Proofs.Ytcibkgmochikmaa.WireRead
