/- The law DigestTexts: 'Parse' for every text. -/
import Derived.Test.YtpgkgagmdjhojaaDigTextMath
import Derived.Test.YtpgkgagmdjhojaaDigNumbers
namespace Go.Proofs.Ytpgkgagmdjhojaa.DigTexts
set_option linter.unusedVariables false
open Go.RowKit Go.Proofs.Ytpgkgagmdjhojaa.DigMul Go.Proofs.Ytpgkgagmdjhojaa.DigExt Go.Proofs.Ytpgkgagmdjhojaa.DigParse Go.Proofs.Ytpgkgagmdjhojaa.DigAwake Go.Proofs.Ytpgkgagmdjhojaa.DigText Go.Proofs.Ytpgkgagmdjhojaa.DigTextMath Go.Proofs.Ytpgkgagmdjhojaa.DigNumbers

theorem index_any (c : Nat) (h : c < 256) (w : World) :
    Calls Try.prog 36 #[.string ⟨#[48, 49, 50, 51, 52, 53, 54, 55, 56, 57, 97, 98, 99, 100, 101, 102]⟩, .int .u8 c] w fun e w' => e = .returned (.int .i64 (digN c)) ∧ w = w' := index_of c _ w (index_dig c h)

theorem refDigit_any (c : Nat) (h : c < 256) (w : World) :
    Calls Try.prog 37 #[.int .u8 c] w fun e w' => e = .returned (.int .i64 (digN c)) ∧ w = w' := by
  have hc : c < 48 ∨ (48 ≤ c ∧ c ≤ 57) ∨ (57 < c ∧ c < 97) ∨ (97 ≤ c ∧ c ≤ 102) ∨ 102 < c := by omega
  rcases hc with h1 | ⟨h1, h2⟩ | ⟨h1, h2⟩ | ⟨h1, h2⟩ | h1
  · have e : digN c = -1 := by unfold digN; rw [if_neg (by omega), if_neg (by omega)]
    rw [e]
    clear e
    go_enter Try.func37, Try.ntmps37
    go_wp2
    go_ret
    exact ⟨rfl, rfl⟩
  · have e : digN c = (c : Int) - 48 := by unfold digN; rw [if_pos (by omega)]
    rw [e]
    clear e
    go_enter Try.func37, Try.ntmps37
    go_wp2
    go_ret
    exact ⟨rfl, rfl⟩
  · have e : digN c = -1 := by unfold digN; rw [if_neg (by omega), if_neg (by omega)]
    rw [e]
    clear e
    go_enter Try.func37, Try.ntmps37
    go_wp2
    go_ret
    exact ⟨rfl, rfl⟩
  · have e : digN c = (c : Int) - 87 := by unfold digN; rw [if_neg (by omega), if_pos (by omega)]
    rw [e]
    clear e
    have e2 : (c : Int) - 97 + 10 = (c : Int) - 87 := by omega
    go_enter Try.func37, Try.ntmps37
    go_wp2
    go_ret
    exact ⟨by first | rfl | simp [e2], rfl⟩
  · have e : digN c = -1 := by unfold digN; rw [if_neg (by omega), if_neg (by omega)]
    rw [e]
    clear e
    go_enter Try.func37, Try.ntmps37
    go_wp2
    go_ret
    exact ⟨rfl, rfl⟩

theorem parse_size (s : ByteArray) (h : s.size ≠ 16) : Twice 26 #[.string s] (.int .i64 0) 6 ∧ Twice 27 #[.string s] (.int .i64 0) 6 := by
  have h' : ((s.size : Nat) : Int) ≠ 16 := by omega
  refine ⟨fun w => ?_, fun w => ?_⟩
  · go_enter Try.func26, Try.ntmps26
    go_wp2
    go_ret2
    exact ⟨rfl, Below.refl _ _⟩
  · go_enter Try.func27, Try.ntmps27
    go_wp2
    go_ret2
    exact ⟨rfl, Below.refl _ _⟩

set_option maxHeartbeats 4000000 in
theorem parse_bad (s : ByteArray) (b : Nat → Nat) (w : World) (hs : s.size = 16) (hget : ∀ x (h : x < s.size), (s[x]'h).toNat = b x) (dg : Nat → Int) (hdg : ∀ x, -1 ≤ dg x ∧ dg x ≤ 15)
    (HI : Hid (∀ x w, Calls Try.prog 36 #[.string ⟨#[48, 49, 50, 51, 52, 53, 54, 55, 56, 57, 97, 98, 99, 100, 101, 102]⟩, .int .u8 (b x : Nat)] w fun e w' => e = .returned (.int .i64 (dg x)) ∧ w = w')) (m : Nat) (hm : m < 16) (hbad : dg m < 0) :
    Calls Try.prog 26 #[.string s] w fun e w' => e = .returned (.tuple #[.int .i64 0, .int .i64 6]) ∧ Below w.heap.size w w' := by
  have hs' : ((s.size : Nat) : Int) = 16 := by omega
  go_enter Try.func26, Try.ntmps26
  go_wp2_with (fail)
  go_loopw [4, 5, 10] (fun s4 s5 s10 wr => ∃ (k : Nat) (x : Int), k ≤ m ∧ s4 = .int .u64 x ∧ s10 = .int .i64 k ∧ wr = w) (fun _ _ s10 _ => 16 - (intOf s10).toNat)
  case atStart => exact ⟨0, 0, by omega, rfl, rfl, rfl⟩
  case round =>
    obtain ⟨k, x, hk, rfl, rfl, rfl⟩ := hrel
    have hk16 : ((k : Nat) : Int) < 16 := by omega
    have hks : k < s.size := by omega
    have HK := Lib.hid (HI.out k)
    obtain ⟨d, hd⟩ : ∃ d, dg k = d := ⟨_, rfl⟩
    rw [hd] at HK
    by_cases hkm : d < 0
    · clear hd
      go_wp2_with (fail)
      refine (HK.out _).mono ?_
      rintro e w' ⟨rfl, rfl⟩
      go_wp2
      go_ret2
      exact ⟨rfl, Below.refl _ _⟩
    · have hne : k ≠ m := fun e => hkm (by rw [← hd, e]; exact hbad)
      have hd0 : 0 ≤ d := by omega
      clear hd
      go_wp2_with (fail)
      refine (HK.out _).mono ?_
      rintro e w' ⟨rfl, rfl⟩
      go_wp2
      go_roundw
      case rel => exact ⟨k + 1, _, by omega, rfl, by go_num, trivial⟩
      case measure => simp [intOf]; omega

/-- What a good text's value keeps to. -/
structure Good (b : Nat → Nat) (dg : Nat → Int) (V : Nat → Int) : Prop where
  zero : V 0 = 0
  dig : ∀ k, k < 16 → 0 ≤ dg k ∧ dg k ≤ 15
  small : ∀ k, k < 16 → 0 ≤ V k ∧ V k < 1152921504606846976
  next : ∀ k, V (k + 1) = V k * 16 + dg k

theorem Good.all {b : Nat → Nat} {dg V : Nat → Int} (h : Good b dg V) : 0 ≤ V 16 ∧ V 16 < 18446744073709551616 := by
  have h1 := h.small 15 (by decide)
  have h2 := h.dig 15 (by decide)
  have h3 : V 16 = V 15 * 16 + dg 15 := h.next 15
  omega

set_option maxHeartbeats 4000000 in
theorem parse_good (s : ByteArray) (b : Nat → Nat) (w : World) (hs : s.size = 16) (hget : ∀ x (h : x < s.size), (s[x]'h).toNat = b x) (dg V : Nat → Int)
    (HI : Hid (∀ x w, Calls Try.prog 36 #[.string ⟨#[48, 49, 50, 51, 52, 53, 54, 55, 56, 57, 97, 98, 99, 100, 101, 102]⟩, .int .u8 (b x : Nat)] w fun e w' => e = .returned (.int .i64 (dg x)) ∧ w = w')) (HG : Hid (Good b dg V)) (r g : Int) (hr : (V 16 < 2305843009213693951 ∧ r = V 16 ∧ g = 0) ∨ (2305843009213693951 ≤ V 16 ∧ r = 0 ∧ g = 2)) :
    Calls Try.prog 26 #[.string s] w fun e w' => e = .returned (.tuple #[.int .i64 r, .int .i64 g]) ∧ Below w.heap.size w w' := by
  have hs' : ((s.size : Nat) : Int) = 16 := by omega
  have HR := Lib.hid hr
  clear hr
  go_enter Try.func26, Try.ntmps26
  go_wp2_with (fail)
  go_loopw [4, 5, 10] (fun s4 s5 s10 wr => ∃ (k : Nat) (x : Int), k ≤ 16 ∧ s4 = .int .u64 x ∧ Hid (x = V k) ∧ s10 = .int .i64 k ∧ wr = w) (fun _ _ s10 _ => 16 - (intOf s10).toNat)
  case atStart => exact ⟨0, 0, by omega, rfl, Lib.hid HG.out.zero.symm, rfl, rfl⟩
  case round =>
    obtain ⟨k, x, hk, rfl, HX, rfl, rfl⟩ := hrel
    by_cases hlt : k < 16
    · have hk16 : ((k : Nat) : Int) < 16 := by omega
      have hks : k < s.size := by omega
      have HK := Lib.hid (HI.out k)
      have h1 := HG.out.small k hlt
      have h2 := HG.out.dig k hlt
      have HN : Hid (bits .or .u64 (x * 16) (dg k) = V (k + 1)) := Lib.hid (by rw [HG.out.next, HX.out]; exact horner _ _ h1 h2)
      rw [← HX.out] at h1
      obtain ⟨y, hy⟩ : ∃ y, y = V (k + 1) := ⟨_, rfl⟩
      rw [← hy] at HN
      have HY := Lib.hid hy
      clear hy
      generalize dg k = d at *
      have hor := HN.out
      go_wp2_with (fail)
      refine (HK.out _).mono ?_
      rintro e w' ⟨rfl, rfl⟩
      go_wp2
      go_roundw
      case rel => exact ⟨k + 1, _, by omega, rfl, HY, by go_num, trivial⟩
      case measure => simp [intOf]; omega
    · obtain rfl : k = 16 := by omega
      have ha := HG.out.all
      have hx := HX.out
      rw [← hx] at HR ha
      clear hx
      rcases HR.out with ⟨h1, h2, h3⟩ | ⟨h1, h2, h3⟩
      · subst h2 h3
        go_wp2
        go_ret2
        exact ⟨rfl, Below.refl _ _⟩
      · subst h2 h3
        go_wp2
        go_ret2
        exact ⟨rfl, Below.refl _ _⟩

set_option maxHeartbeats 4000000 in
theorem refParse_bad (s : ByteArray) (b : Nat → Nat) (w : World) (hs : s.size = 16) (hget : ∀ x (h : x < s.size), (s[x]'h).toNat = b x) (dg : Nat → Int) (hdg : ∀ x, -1 ≤ dg x ∧ dg x ≤ 15)
    (HI : Hid (∀ x w, Calls Try.prog 37 #[.int .u8 (b x : Nat)] w fun e w' => e = .returned (.int .i64 (dg x)) ∧ w = w')) (m : Nat) (hm : m < 16) (hbad : dg m < 0) :
    Calls Try.prog 27 #[.string s] w fun e w' => e = .returned (.tuple #[.int .i64 0, .int .i64 6]) ∧ Below w.heap.size w w' := by
  have hs' : ((s.size : Nat) : Int) = 16 := by omega
  go_enter Try.func27, Try.ntmps27
  go_wp2_with (fail)
  go_loopw [4] (fun s4 wr => ∃ (k : Nat), k ≤ m ∧ s4 = .int .i64 k ∧ wr = w) (fun s4 _ => 16 - (intOf s4).toNat)
  case atStart => exact ⟨0, by omega, rfl, rfl⟩
  case round =>
    obtain ⟨k, hk, rfl, rfl⟩ := hrel
    have hk16 : ((k : Nat) : Int) < 16 := by omega
    have hks : k < s.size := by omega
    have HK := Lib.hid (HI.out k)
    obtain ⟨d, hd⟩ : ∃ d, dg k = d := ⟨_, rfl⟩
    rw [hd] at HK
    by_cases hkm : d < 0
    · clear hd
      go_wp2_with (fail)
      refine (HK.out _).mono ?_
      rintro e w' ⟨rfl, rfl⟩
      go_wp2
      go_ret2
      exact ⟨rfl, Below.refl _ _⟩
    · have hne : k ≠ m := fun e => hkm (by rw [← hd, e]; exact hbad)
      have hd0 : 0 ≤ d := by omega
      clear hd
      go_wp2_with (fail)
      refine (HK.out _).mono ?_
      rintro e w' ⟨rfl, rfl⟩
      go_wp2
      go_roundw
      case rel => exact ⟨k + 1, by omega, by go_num, trivial⟩
      case measure => simp [intOf]; omega

set_option maxHeartbeats 4000000 in
theorem refParse_good (s : ByteArray) (b : Nat → Nat) (w : World) (hs : s.size = 16) (hget : ∀ x (h : x < s.size), (s[x]'h).toNat = b x) (dg V : Nat → Int)
    (HI : Hid (∀ x w, Calls Try.prog 37 #[.int .u8 (b x : Nat)] w fun e w' => e = .returned (.int .i64 (dg x)) ∧ w = w')) (HG : Hid (Good b dg V)) (r g : Int) (hr : (V 16 < 2305843009213693951 ∧ r = V 16 ∧ g = 0) ∨ (2305843009213693951 ≤ V 16 ∧ r = 0 ∧ g = 2)) :
    Calls Try.prog 27 #[.string s] w fun e w' => e = .returned (.tuple #[.int .i64 r, .int .i64 g]) ∧ Below w.heap.size w w' := by
  have hs' : ((s.size : Nat) : Int) = 16 := by omega
  have HR := Lib.hid hr
  clear hr
  go_enter Try.func27, Try.ntmps27
  go_wp2_with (fail)
  go_loopw [4] (fun s4 wr => ∃ (k : Nat), k ≤ 16 ∧ s4 = .int .i64 k ∧ wr = w) (fun s4 _ => 16 - (intOf s4).toNat)
  case atStart => exact ⟨0, by omega, rfl, rfl⟩
  case round =>
    obtain ⟨k, hk, rfl, rfl⟩ := hrel
    by_cases hlt : k < 16
    · have hk16 : ((k : Nat) : Int) < 16 := by omega
      have hks : k < s.size := by omega
      have HK := Lib.hid (HI.out k)
      have h2 := HG.out.dig k hlt
      generalize dg k = d at *
      go_wp2_with (fail)
      refine (HK.out _).mono ?_
      rintro e w' ⟨rfl, rfl⟩
      go_wp2
      go_roundw
      case rel => exact ⟨k + 1, by omega, by go_num, trivial⟩
      case measure => simp [intOf]; omega
    · have hge : (16 : Int) ≤ ((k : Nat) : Int) := by omega
      clear hk hlt
      generalize ((k : Nat) : Int) = kk at *
      go_wp2_with (fail)
      go_loopw [5, 6] (fun s5 s6 wr2 => ∃ (k : Nat) (x : Int), k ≤ 16 ∧ s5 = .int .u64 x ∧ Hid (x = V k) ∧ s6 = .int .i64 k ∧ wr2 = wr) (fun _ s6 _ => 16 - (intOf s6).toNat)
      case atStart => exact ⟨0, 0, by omega, rfl, Lib.hid HG.out.zero.symm, rfl, rfl⟩
      case round =>
        obtain ⟨k, x, hk, rfl, HX, rfl, rfl⟩ := hrel
        by_cases hlt : k < 16
        · have hk16 : ((k : Nat) : Int) < 16 := by omega
          have hks : k < s.size := by omega
          have HK := Lib.hid (HI.out k)
          have h1 := HG.out.small k hlt
          have h2 := HG.out.dig k hlt
          have HN : Hid (16 * x + dg k = V (k + 1)) := Lib.hid (by rw [HG.out.next, HX.out]; omega)
          rw [← HX.out] at h1
          generalize dg k = d at *
          go_wp2_with (fail)
          refine (HK.out _).mono ?_
          rintro e w' ⟨rfl, rfl⟩
          go_wp2
          go_roundw
          case rel => exact ⟨k + 1, _, by omega, rfl, HN, by go_num, trivial⟩
          case measure => simp [intOf]; omega
        · obtain rfl : k = 16 := by omega
          have ha := HG.out.all
          have hx := HX.out
          rw [← hx] at HR ha
          clear hx
          rcases HR.out with ⟨h1, h2, h3⟩ | ⟨h1, h2, h3⟩
          · subst h2 h3
            go_wp2
            go_ret2
            exact ⟨rfl, Below.refl _ _⟩
          · subst h2 h3
            go_wp2
            go_ret2
            exact ⟨rfl, Below.refl _ _⟩

theorem good_of (s : ByteArray) (h : ∀ j, j < 16 → 0 ≤ digN (byteN s j)) : Good (byteN s) (fun k => digN (byteN s k)) (val s) where
  zero := rfl
  dig k hk := ⟨h k hk, (digN_range _).2⟩
  small k hk := val_small s k hk h
  next k := rfl

/-- 'Parse' at a text of good digits. -/
theorem parses_good (s : ByteArray) (hs : s.size = 16) (h : ∀ j, j < 16 → 0 ≤ digN (byteN s j)) (r g : Int) (hr : (val s 16 < 2305843009213693951 ∧ r = val s 16 ∧ g = 0) ∨ (2305843009213693951 ≤ val s 16 ∧ r = 0 ∧ g = 2)) :
    Twice 26 #[.string s] (.int .i64 r) g ∧ Twice 27 #[.string s] (.int .i64 r) g :=
  ⟨fun w => parse_good s (byteN s) w hs (get_byte s) (fun k => digN (byteN s k)) (val s) (Lib.hid fun x w => index_any _ (byteN_lt s x) w) (Lib.hid (good_of s h)) r g hr,
   fun w => refParse_good s (byteN s) w hs (get_byte s) (fun k => digN (byteN s k)) (val s) (Lib.hid fun x w => refDigit_any _ (byteN_lt s x) w) (Lib.hid (good_of s h)) r g hr⟩

/-- Both answer alike for every text; what was parsed prints as the text. -/
theorem parses (s : ByteArray) : ∃ r g, Twice 26 #[.string s] (.int .i64 r) g ∧ Twice 27 #[.string s] (.int .i64 r) g ∧
    ((g = 0 ∧ Twice 24 #[.int .i64 r] (.string s) 0) ∨ (0 < g ∧ ∃ t e, Twice 24 #[.int .i64 r] (.string t) e)) := by
  by_cases hs : s.size = 16
  · by_cases h : ∀ j, j < 16 → 0 ≤ digN (byteN s j)
    · have hv := (val_range s 16 h).1
      by_cases hP : val s 16 < 2305843009213693951
      · obtain ⟨p1, p2⟩ := parses_good s hs h (val s 16) 0 (Or.inl ⟨hP, rfl, rfl⟩)
        refine ⟨_, _, p1, p2, Or.inl ⟨rfl, fun w => ?_⟩⟩
        have := print_in (val s 16) w hv hP
        rwa [digits_val s hs h] at this
      · obtain ⟨p1, p2⟩ := parses_good s hs h 0 2 (Or.inr ⟨by omega, rfl, rfl⟩)
        obtain ⟨t, e, p, _⟩ := prints 0
        exact ⟨_, _, p1, p2, Or.inr ⟨by decide, t, e, p⟩⟩
    · obtain ⟨m, hm⟩ := Classical.not_forall.1 h
      obtain ⟨hm1, hm2⟩ := Classical.not_imp.1 hm
      obtain ⟨t, e, p, _⟩ := prints 0
      exact ⟨0, 6, fun w => parse_bad s (byteN s) w hs (get_byte s) (fun k => digN (byteN s k)) (fun k => digN_range _) (Lib.hid fun x w => index_any _ (byteN_lt s x) w) m hm1 (by omega),
        fun w => refParse_bad s (byteN s) w hs (get_byte s) (fun k => digN (byteN s k)) (fun k => digN_range _) (Lib.hid fun x w => refDigit_any _ (byteN_lt s x) w) m hm1 (by omega), Or.inr ⟨by decide, t, e, p⟩⟩
  · obtain ⟨p1, p2⟩ := parse_size s hs
    obtain ⟨t, e, p, _⟩ := prints 0
    exact ⟨_, _, p1, p2, Or.inr ⟨by decide, t, e, p⟩⟩

/-- What is printed of a digest parses as that digest. -/
theorem back (d : Int) : ∃ u h n i, Twice 24 #[.int .i64 d] (.string u) h ∧ Twice 26 #[.string u] (.int .i64 n) i ∧ ((h = 0 ∧ i = 0 ∧ n = d) ∨ 0 < h) := by
  by_cases h : 0 ≤ d ∧ d < 2305843009213693951
  · obtain ⟨v1, v2⟩ := val_digits d h.1 h.2
    obtain ⟨p1, p2⟩ := parses_good (strOfNums (digits d)) (by rw [strOfNums_size]; rfl) v1 d 0 (Or.inl ⟨by rw [v2]; exact h.2, v2.symm, rfl⟩)
    exact ⟨_, 0, _, _, fun w => print_in d w h.1 h.2, p1, Or.inl ⟨rfl, rfl, rfl⟩⟩
  · obtain ⟨p1, p2⟩ := parse_size ⟨#[]⟩ (by decide)
    exact ⟨_, 2, _, _, fun w => print_out d w (by omega), p1, Or.inr (by decide)⟩

end Go.Proofs.Ytpgkgagmdjhojaa.DigTexts
