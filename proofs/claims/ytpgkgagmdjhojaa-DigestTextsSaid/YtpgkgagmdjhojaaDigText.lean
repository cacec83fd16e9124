/- The texts of digests: 'Print' for every number. -/
import Derived.Test.YtpgkgagmdjhojaaDigParse
import Derived.Laws.BytesArg
namespace Go.Proofs.Ytpgkgagmdjhojaa.DigText
set_option linter.unusedVariables false
open Go.RowKit Go.Proofs.Ytpgkgagmdjhojaa.DigMul Go.Proofs.Ytpgkgagmdjhojaa.DigExt Go.Proofs.Ytpgkgagmdjhojaa.DigPrint

/-- The byte of a digit. -/
def hexN (x : Nat) : Nat := if x < 10 then 48 + x else 87 + x
theorem get_hex (x : Nat) (h : x < (⟨#[48, 49, 50, 51, 52, 53, 54, 55, 56, 57, 97, 98, 99, 100, 101, 102]⟩ : ByteArray).size) : ((⟨#[48, 49, 50, 51, 52, 53, 54, 55, 56, 57, 97, 98, 99, 100, 101, 102]⟩ : ByteArray)[x]'h).toNat = hexN x := by
  have h' : x < 16 := h
  match x, h' with
  | 0, _ => rfl
  | 1, _ => rfl
  | 2, _ => rfl
  | 3, _ => rfl
  | 4, _ => rfl
  | 5, _ => rfl
  | 6, _ => rfl
  | 7, _ => rfl
  | 8, _ => rfl
  | 9, _ => rfl
  | 10, _ => rfl
  | 11, _ => rfl
  | 12, _ => rfl
  | 13, _ => rfl
  | 14, _ => rfl
  | 15, _ => rfl
  | n + 16, h => exact absurd h (by omega)
/-- The digit of value x, as a number. -/
def hexI (x : Int) : Int := ((hexN x.toNat : Nat) : Int)
/-- The text's bytes. -/
def digits (d : Int) : List Int := [hexI (d / 1152921504606846976 % 16), hexI (d / 72057594037927936 % 16), hexI (d / 4503599627370496 % 16), hexI (d / 281474976710656 % 16), hexI (d / 17592186044416 % 16), hexI (d / 1099511627776 % 16), hexI (d / 68719476736 % 16), hexI (d / 4294967296 % 16), hexI (d / 268435456 % 16), hexI (d / 16777216 % 16), hexI (d / 1048576 % 16), hexI (d / 65536 % 16), hexI (d / 4096 % 16), hexI (d / 256 % 16), hexI (d / 16 % 16), hexI (d % 16)]


set_option maxRecDepth 100000 in
set_option maxHeartbeats 4000000 in
theorem print_in (d : Int) (w : World) (h1 : 0 ≤ d) (h2 : d < 2305843009213693951) :
    Calls Try.prog 24 #[.int .i64 d] w fun e w' => e = .returned (.tuple #[.string (strOfNums (digits d)), .int .i64 0]) ∧ Below w.heap.size w w' := by
  have HV : Hid (∀ w, Calls Try.prog 28 #[.int .i64 d] w fun e w' => e = .returned (.bool true) ∧ w = w') := Lib.hid fun w => by
    have := valid_any d w
    simpa [h1, h2] using this
  have hmask := mask15
  have hget := get_hex
  have hfold : ∀ x : Int, ((hexN x.toNat : Nat) : Int) = hexI x := fun _ => rfl
  obtain ⟨t, ht⟩ : ∃ t, t = strOfNums (digits d) := ⟨_, rfl⟩
  have HCV : Hid (∀ W : World, (∀ i, i < 16 → W.cell? ⟨w.heap.size, 0 + i, none⟩ = some (.int .u8 ((digits d).getD i 0))) → (convert 22 9 (.slice (some ⟨w.heap.size, 0, none⟩) 16 16)).run Try.prog W = .ok (.string t) W) :=
    Lib.hid fun W hc => ht ▸ run_convert_bytes_arg W 22 5 Try.underlying22 Try.underlying5 w.heap.size 0 16 16 (digits d) rfl hc 9 Try.underlying9
  rw [← ht]
  clear ht
  go_enter Try.func24, Try.ntmps24
  go_wp2_with (fail)
  refine (HV.out _).mono ?_
  rintro e w' ⟨rfl, rfl⟩
  go_wp2_with (fail)
  refine wp_loop_rounds 17 ?_
  iterate 16
    rw [rounds_succ]
    go_wp2
  rw [rounds_succ]
  go_wp2
  rw [HCV.out _ ?hcells]
  case hcells =>
    intro i hi
    obtain rfl | rfl | rfl | rfl | rfl | rfl | rfl | rfl | rfl | rfl | rfl | rfl | rfl | rfl | rfl | rfl : i = 0 ∨ i = 1 ∨ i = 2 ∨ i = 3 ∨ i = 4 ∨ i = 5 ∨ i = 6 ∨ i = 7 ∨ i = 8 ∨ i = 9 ∨ i = 10 ∨ i = 11 ∨ i = 12 ∨ i = 13 ∨ i = 14 ∨ i = 15 := by omega
    all_goals (simp [go_sem]; rfl)
  go_wp2
  go_ret2
  exact ⟨rfl, by go_grown⟩

theorem print_out (d : Int) (w : World) (h : d < 0 ∨ (0 ≤ d ∧ 2305843009213693951 ≤ d)) :
    Calls Try.prog 24 #[.int .i64 d] w fun e w' => e = .returned (.tuple #[.string ⟨#[]⟩, .int .i64 2]) ∧ Below w.heap.size w w' := by
  have HV : Hid (∀ w, Calls Try.prog 28 #[.int .i64 d] w fun e w' => e = .returned (.bool false) ∧ w = w') := Lib.hid fun w => by
    have := valid_any d w
    have e : (decide (0 ≤ d) && decide (d < 2305843009213693951)) = false := by simp; omega
    rwa [e] at this
  go_enter Try.func24, Try.ntmps24
  go_wp2_with (fail)
  refine (HV.out _).mono ?_
  rintro e w' ⟨rfl, rfl⟩
  go_wp2
  go_ret2
  exact ⟨rfl, by go_grown⟩

theorem refPrint_out (d : Int) (w : World) (h : d < 0 ∨ (0 ≤ d ∧ 2305843009213693951 ≤ d)) :
    Calls Try.prog 25 #[.int .i64 d] w fun e w' => e = .returned (.tuple #[.string ⟨#[]⟩, .int .i64 2]) ∧ Below w.heap.size w w' := by
  rcases h with h | ⟨h1, h⟩
  all_goals
    go_enter Try.func25, Try.ntmps25
    go_wp2
    go_ret2
    exact ⟨rfl, Below.refl _ _⟩

/-- The lowest k digits. -/
def low (d : Int) : Nat → List Int
  | 0 => []
  | k + 1 => hexI (d / 16 ^ k % 16) :: low d k

theorem low_length (d : Int) (k : Nat) : (low d k).length = k := by
  induction k with
  | zero => rfl
  | succ k ih => simp [low, ih]

theorem low_all (d : Int) : low d 16 = digits d := by
  unfold digits low
  simp [low]

theorem cut_hex (x : Nat) (h : x < 16) (l : List Int) : (⟨#[48, 49, 50, 51, 52, 53, 54, 55, 56, 57, 97, 98, 99, 100, 101, 102]⟩ : ByteArray).extract x (x + 1) ++ strOfNums l = strOfNums (((hexN x : Nat) : Int) :: l) := by
  have e : strOfNums (((hexN x : Nat) : Int) :: l) = ⟨#[UInt8.ofNat (hexN x)]⟩ ++ strOfNums l := by
    apply ByteArray.ext
    simp [strOfNums]
  rw [e]
  congr 1
  match x, h with
  | 0, _ => decide
  | 1, _ => decide
  | 2, _ => decide
  | 3, _ => decide
  | 4, _ => decide
  | 5, _ => decide
  | 6, _ => decide
  | 7, _ => decide
  | 8, _ => decide
  | 9, _ => decide
  | 10, _ => decide
  | 11, _ => decide
  | 12, _ => decide
  | 13, _ => decide
  | 14, _ => decide
  | 15, _ => decide
  | n + 16, h => exact absurd h (by omega)

theorem down16 (d : Int) (k : Nat) : d / 16 ^ k / 16 = d / 16 ^ (k + 1) := by
  rw [Int.pow_succ, Int.ediv_ediv, if_neg (fun h => by have := Int.pow_pos (m := k) (by decide : (0 : Int) < 16); omega), Int.sub_zero]

set_option maxHeartbeats 4000000 in
theorem refPrint_in (d : Int) (w : World) (h1 : 0 ≤ d) (h2 : d < 2305843009213693951) :
    Calls Try.prog 25 #[.int .i64 d] w fun e w' => e = .returned (.tuple #[.string (strOfNums (digits d)), .int .i64 0]) ∧ Below w.heap.size w w' := by
  obtain ⟨r, hr⟩ : ∃ r, r = strOfNums (digits d) := ⟨_, rfl⟩
  rw [← hr]
  have HR := Lib.hid hr
  clear hr
  go_enter Try.func25, Try.ntmps25
  go_wp2_with (fail)
  go_loopw [0, 4, 5] (fun s0 s4 s5 wr => ∃ (k : Nat) (x : Int) (t : ByteArray), k ≤ 16 ∧ s0 = .int .i64 x ∧ s4 = .string t ∧ s5 = .int .i64 k ∧ 0 ≤ x ∧ x < 2305843009213693951 ∧ Hid (t = strOfNums (low d k) ∧ x = d / 16 ^ k) ∧ wr = w) (fun _ _ s5 _ => 16 - (intOf s5).toNat)
  case atStart => exact ⟨0, d, _, by omega, rfl, rfl, rfl, h1, h2, Lib.hid ⟨by rfl, by simp⟩, rfl⟩
  case round =>
    obtain ⟨k, x, t, hk, rfl, rfl, rfl, x1, x2, HI, rfl⟩ := hrel
    by_cases hlt : k < 16
    · have HN : Hid ((⟨#[48, 49, 50, 51, 52, 53, 54, 55, 56, 57, 97, 98, 99, 100, 101, 102]⟩ : ByteArray).extract (x % 16).toNat (x % 16 + 1).toNat ++ t = strOfNums (low d (k + 1)) ∧ x / 16 = d / 16 ^ (k + 1)) := Lib.hid ⟨by
        rw [show (x % 16 + 1).toNat = (x % 16).toNat + 1 by omega, HI.out.1, cut_hex _ (by omega), HI.out.2]
        rfl, by rw [HI.out.2, down16]⟩
      have hts : t.size ≤ 16 := by rw [HI.out.1, strOfNums_size, low_length]; omega
      have hb : ¬ 9223372036854775807 < min (x % 16 + 1).toNat 16 - (x % 16).toNat + t.size := by omega
      clear HI hts
      go_wp2
      go_roundw
      case rel => exact ⟨k + 1, _, _, by omega, rfl, rfl, by go_num, by omega, by omega, HN, trivial⟩
      case measure => simp [intOf]; omega
    · obtain rfl : k = 16 := by omega
      have e : r = t := by rw [HR.out, HI.out.1, low_all]
      subst e
      go_wp2
      go_ret2
      exact ⟨rfl, Below.refl _ _⟩

end Go.Proofs.Ytpgkgagmdjhojaa.DigText
