/- The texts of digests: what a text's digits come to. -/
import Derived.Test.YtpgkgagmdjhojaaDigText
import Derived.Laws.BitsAllLaws
namespace Go.Proofs.Ytpgkgagmdjhojaa.DigTextMath
set_option linter.unusedVariables false
open Go.RowKit Go.Proofs.Ytpgkgagmdjhojaa.DigMul Go.Proofs.Ytpgkgagmdjhojaa.DigExt Go.Proofs.Ytpgkgagmdjhojaa.DigText

/-- The value of a digit; -1 for other bytes. -/
def digN (c : Nat) : Int := if 48 ≤ c ∧ c ≤ 57 then (c : Int) - 48 else if 97 ≤ c ∧ c ≤ 102 then (c : Int) - 87 else -1

theorem digN_range (c : Nat) : -1 ≤ digN c ∧ digN c ≤ 15 := by unfold digN; split <;> (try split) <;> omega

theorem digN_hex (x : Nat) (h : x < 16) : digN (hexN x) = x := by unfold digN hexN; split <;> split <;> omega

theorem hexN_dig (c : Nat) (h : 0 ≤ digN c) : hexN (digN c).toNat = c := by
  by_cases h1 : 48 ≤ c ∧ c ≤ 57
  · have e : digN c = (c : Int) - 48 := by unfold digN; rw [if_pos h1]
    rw [e]; unfold hexN; rw [if_pos (by omega)]; omega
  · by_cases h2 : 97 ≤ c ∧ c ≤ 102
    · have e : digN c = (c : Int) - 87 := by unfold digN; rw [if_neg h1, if_pos h2]
      rw [e]; unfold hexN; rw [if_neg (by omega)]; omega
    · have e : digN c = -1 := by unfold digN; rw [if_neg h1, if_neg h2]
      omega

set_option maxRecDepth 100000 in
theorem index_dig (c : Nat) (h : c < 256) : Lib.indexByte [48, 49, 50, 51, 52, 53, 54, 55, 56, 57, 97, 98, 99, 100, 101, 102] (c : Int).toNat.toUInt8 = digN c := by
  rw [Int.toNat_natCast]
  have all : ∀ c : Fin 256, Lib.indexByte [48, 49, 50, 51, 52, 53, 54, 55, 56, 57, 97, 98, 99, 100, 101, 102] c.val.toUInt8 = digN c.val := by decide
  exact all ⟨c, h⟩

/-- The k-th byte of a text. -/
def byteN (s : ByteArray) (k : Nat) : Nat := (s.data.getD k 0).toNat

theorem byteN_lt (s : ByteArray) (k : Nat) : byteN s k < 256 := UInt8.toNat_lt _

theorem get_byte (s : ByteArray) (k : Nat) (h : k < s.size) : (s[k]'h).toNat = byteN s k := by
  unfold byteN
  have h' : k < s.data.size := h
  rw [Array.getD, dif_pos h']
  rfl

/-- The value of the first k digits. -/
def val (s : ByteArray) : Nat → Int
  | 0 => 0
  | k + 1 => val s k * 16 + digN (byteN s k)

theorem val_range (s : ByteArray) (k : Nat) (h : ∀ j, j < k → 0 ≤ digN (byteN s j)) : 0 ≤ val s k ∧ val s k < 16 ^ k := by
  induction k with
  | zero => exact ⟨Int.le_refl 0, by show (0 : Int) < 16 ^ 0; decide⟩
  | succ k ih =>
    have i := ih fun j hj => h j (by omega)
    have d1 := h k (by omega)
    have d2 := digN_range (byteN s k)
    have e : (16 : Int) ^ (k + 1) = 16 ^ k * 16 := Int.pow_succ _ _
    show 0 ≤ val s k * 16 + digN (byteN s k) ∧ val s k * 16 + digN (byteN s k) < 16 ^ (k + 1)
    rw [e]
    generalize (16 : Int) ^ k = p at *
    omega

theorem val_small (s : ByteArray) (k : Nat) (hk : k < 16) (h : ∀ j, j < 16 → 0 ≤ digN (byteN s j)) : 0 ≤ val s k ∧ val s k < 1152921504606846976 := by
  have r := val_range s k fun j hj => h j (by omega)
  have e : (16 : Int) ^ k ≤ 16 ^ 15 := by
    have := Nat.pow_le_pow_right (show 0 < 16 by decide) (show k ≤ 15 by omega)
    have c : ((16 ^ k : Nat) : Int) ≤ ((16 ^ 15 : Nat) : Int) := Int.ofNat_le.2 this
    simpa using c
  have e2 : (16 : Int) ^ 15 = 1152921504606846976 := by decide
  rw [e2] at e
  exact ⟨r.1, Int.lt_of_lt_of_le r.2 e⟩

theorem val_shift (s : ByteArray) (h : ∀ j, j < 16 → 0 ≤ digN (byteN s j)) (j : Nat) (hj : j ≤ 16) : val s 16 / 16 ^ j = val s (16 - j) := by
  induction j with
  | zero => simp
  | succ j ih =>
    rw [← down16, ih (by omega)]
    obtain ⟨k, hk⟩ : ∃ k, 16 - j = k + 1 := ⟨15 - j, by omega⟩
    rw [hk, show 16 - (j + 1) = k by omega]
    have d1 := h k (by omega)
    have d2 := digN_range (byteN s k)
    show (val s k * 16 + digN (byteN s k)) / 16 = val s k
    omega

theorem val_digit (s : ByteArray) (h : ∀ j, j < 16 → 0 ≤ digN (byteN s j)) (j : Nat) (hj : j < 16) : val s 16 / 16 ^ j % 16 = digN (byteN s (15 - j)) := by
  rw [val_shift s h j (by omega), show 16 - j = (15 - j) + 1 by omega]
  have d1 := h (15 - j) (by omega)
  have d2 := digN_range (byteN s (15 - j))
  show (val s (15 - j) * 16 + digN (byteN s (15 - j))) % 16 = _
  omega

theorem low_val (s : ByteArray) (hs : s.size = 16) (h : ∀ j, j < 16 → 0 ≤ digN (byteN s j)) (k : Nat) (hk : k ≤ 16) : low (val s 16) k = (s.data.toList.map fun b => (b.toNat : Int)).drop (16 - k) := by
  have hl : (s.data.toList.map fun b => (b.toNat : Int)).length = 16 := by simp; exact hs
  induction k with
  | zero => rw [List.drop_of_length_le (by rw [hl]; omega)]; rfl
  | succ k ih =>
    have hi : 15 - k < (s.data.toList.map fun b => (b.toNat : Int)).length := by rw [hl]; omega
    rw [show 16 - (k + 1) = 15 - k by omega, List.drop_eq_getElem_cons hi, show 15 - k + 1 = 16 - k by omega, ← ih (by omega)]
    show hexI (val s 16 / 16 ^ k % 16) :: low (val s 16) k = _
    rw [val_digit s h k (by omega)]
    congr 1
    unfold hexI
    rw [hexN_dig _ (h _ (by omega))]
    have h' : 15 - k < s.data.size := by have : s.data.size = 16 := hs; omega
    have h2 : 15 - k < s.size := h'
    simp [byteN, Array.getD, h2]

theorem digits_val (s : ByteArray) (hs : s.size = 16) (h : ∀ j, j < 16 → 0 ≤ digN (byteN s j)) : strOfNums (digits (val s 16)) = s := by
  rw [← low_all, low_val s hs h 16 (Nat.le_refl _)]
  apply ByteArray.ext
  apply Array.ext'
  rw [strOfNums_data, Nat.sub_self, List.drop_zero, List.map_map]
  refine (List.map_congr_left fun b _ => ?_).trans (List.map_id _)
  show UInt8.ofNat ((b.toNat : Nat) : Int).toNat = b
  rw [Int.toNat_natCast, UInt8.ofNat_toNat]

theorem byte_digits (d : Int) (k : Nat) (hk : k < 16) : byteN (strOfNums (digits d)) k = hexN (d / 16 ^ (15 - k) % 16).toNat := by
  have hd : digits d = low d 16 := (low_all d).symm
  have hx : ∀ x : Nat, x < 16 → hexN x < 256 := fun x hx => by unfold hexN; split <;> omega
  have key : ∀ n j : Nat, j < n → (low d n)[j]? = some (hexI (d / 16 ^ (n - 1 - j) % 16)) := by
    intro n
    induction n with
    | zero => intro j hj; omega
    | succ n ih =>
      intro j hj
      cases j with
      | zero => rfl
      | succ j =>
        show (low d n)[j]? = _
        rw [ih j (by omega), show n + 1 - 1 - (j + 1) = n - 1 - j by omega]
  unfold byteN
  have e : (strOfNums (digits d)).data[k]? = some (UInt8.ofNat (hexI (d / 16 ^ (15 - k) % 16)).toNat) := by
    rw [hd, ← Array.getElem?_toList, strOfNums_data, List.getElem?_map, key 16 k hk]
    rfl
  rw [Array.getD_eq_getD_getElem?, e]
  show (UInt8.ofNat (hexI (d / 16 ^ (15 - k) % 16)).toNat).toNat = _
  unfold hexI
  rw [Int.toNat_natCast, UInt8.toNat_ofNat']
  exact Nat.mod_eq_of_lt (hx _ (by omega))

theorem val_digits (d : Int) (h1 : 0 ≤ d) (h2 : d < 2305843009213693951) : (∀ j, j < 16 → 0 ≤ digN (byteN (strOfNums (digits d)) j)) ∧ val (strOfNums (digits d)) 16 = d := by
  have hd : ∀ j, j < 16 → digN (byteN (strOfNums (digits d)) j) = d / 16 ^ (15 - j) % 16 := fun j hj => by
    rw [byte_digits d j hj, digN_hex _ (by omega)]; omega
  have hv : ∀ k, k ≤ 16 → val (strOfNums (digits d)) k = d / 16 ^ (16 - k) := by
    intro k
    induction k with
    | zero =>
      intro _
      show (0 : Int) = d / 16 ^ 16
      rw [show (16 : Int) ^ 16 = 18446744073709551616 by decide]
      omega
    | succ k ih =>
      intro hk
      show val (strOfNums (digits d)) k * 16 + digN (byteN (strOfNums (digits d)) k) = _
      rw [ih (by omega), hd k (by omega), show 16 - (k + 1) = 15 - k by omega, show 16 - k = 15 - k + 1 by omega, ← down16]
      generalize d / 16 ^ (15 - k) = y
      omega
  refine ⟨fun j hj => by rw [hd j hj]; omega, ?_⟩
  rw [hv 16 (Nat.le_refl _)]
  simp

theorem horner (x g : Int) (hx : 0 ≤ x ∧ x < 1152921504606846976) (hg : 0 ≤ g ∧ g ≤ 15) : bits .or .u64 (x * 16) g = x * 16 + g := by
  rw [u64_or (x * 16) g (by omega) (by omega) (by omega) (by omega)]
  have e : (x * 16).toNat ||| g.toNat = x.toNat * 16 + g.toNat := by
    have := Nat.shiftLeft_add_eq_or_of_lt (show g.toNat < 2 ^ 4 by omega) x.toNat
    rw [Nat.shiftLeft_eq] at this
    rw [show (x * 16).toNat = x.toNat * 2 ^ 4 by omega, ← this]
  rw [e]
  omega

end Go.Proofs.Ytpgkgagmdjhojaa.DigTextMath
