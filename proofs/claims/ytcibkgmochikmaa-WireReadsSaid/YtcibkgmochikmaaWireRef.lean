/- The reference's writing: 'split', 'Int', 'Bool', 'Text', 'Ints', 'Texts', 'Few'. -/
import Derived.Test.YtcibkgmochikmaaWireText
namespace Go.Proofs.Ytcibkgmochikmaa.WireRef
set_option linter.unusedVariables false
open Go.RowKit Go.Proofs.Ytcibkgmochikmaa.WireBase Go.Proofs.Ytcibkgmochikmaa.WireInt Go.Proofs.Ytcibkgmochikmaa.WireAppend Go.Proofs.Ytcibkgmochikmaa.WireAwake Go.Proofs.Ytcibkgmochikmaa.WireCanon Go.Proofs.Ytcibkgmochikmaa.WireText

theorem app_own {ops : Array Oper} {rest : List Oper} {o : Oper} {a : Act} {Q : Exit → Act → World → Prop} (hgd : o.guard = none) (s x : Operand) (ho : o.op = .call { callee := .builtin .append, args := #[s, x], argTypes := #[22, 22] })
    (wk : World) (A : Option Addr) (cap n : Nat) (Z : List Int) (hs : a.eval s = .slice (some ⟨wk.heap.size, 0, none⟩) 0 0) (hx : a.eval x = .slice A n cap) (hn : Z.length = n) (hl : Hid (Lies wk .u8 wk.heap.size A Z)) (hlen : ((n : Nat) : Int) ≤ 200000)
    (h : ∀ v w', Hid (Own w' wk.heap.size v Z) → Hid (Below wk.heap.size wk w') → wpList Try.prog ops Q rest (a.put o.dst v) w') : wpList Try.prog ops Q (o :: rest) a (wk.alloc (.cells #[] 5)) := by
  obtain ⟨i0, hi, hz0, hz1, hz2⟩ := info_parts byte_info
  subst hn
  refine wp_app_ints _ hgd s x 22 ho wk.heap.size 5 i0 (.int .u8 0) 1 Try.underlying22 hi hz0 hz1 hz2 rfl (.slice (some ⟨wk.heap.size, 0, none⟩) 0 0) 0 [] hs (World.ownsRow_made wk #[] 0 (Nat.le_refl _) (by decide) rfl) .u8 wk.heap.size A cap Z hx (hl.out.below ((Below.refl _ _).alloc (Nat.le_refl _) _)) (by unfold maxLen; omega) (by omega) (by simp) ?_
  intro v0 w0 hown hg _
  have b0 : Below wk.heap.size wk w0 := ((Below.refl _ _).alloc (Nat.le_refl _) _).grown hg (by simp) (by intro k hk; simp [Value.ownBlock] at hk; omega)
  have hO : Own w0 wk.heap.size v0 Z := by unfold Own; simpa using hown
  exact h v0 w0 (Lib.hid hO) (Lib.hid b0)

/-- The number of bytes behind the first one. -/
def kR (n : Int) : Int := if isOne n then 0 else cnt (mag n)

set_option maxHeartbeats 1000000 in
theorem split_one (n : Int) (w : World) (h1 : -120 ≤ n) (h2 : n ≤ 119) :
    Calls Try.prog 37 #[.int .i64 n] w fun e w' => e = .returned (.tuple #[.int .i64 0, .int .u64 0]) ∧ w' = w := by
  go_enter Try.func37, Try.ntmps37
  go_wp2
  go_ret2
  exact ⟨rfl, rfl⟩

set_option maxHeartbeats 2000000 in
theorem split_neg (n : Int) (w : World) (hn : isI n) (h1 : n < -120) :
    Calls Try.prog 37 #[.int .i64 n] w fun e w' => e = .returned (.tuple #[.int .i64 (cnt (-121 - n)), .int .u64 (-121 - n)]) ∧ w' = w := by
  obtain ⟨n1, n2⟩ := hn
  have HC : Hid (cnt (-121 - n) = 1 + len ((-121 - n) / 256)) := Lib.hid rfl
  generalize cnt (-121 - n) = c at *
  have hm : 0 ≤ -121 - n ∧ -121 - n ≤ 9223372036854775807 := by omega
  go_enter Try.func37, Try.ntmps37
  go_wp2_with (fail)
  go_loopw [5, 6] (fun s5 s6 wr => ∃ (r k : Int), s6 = .int .u64 r ∧ s5 = .int .i64 k ∧ 0 ≤ r ∧ r < 18446744073709551616 ∧ 0 ≤ k ∧ Hid (k + len r = c) ∧ k ≤ 9 ∧ wr = w) (fun _ s6 _ => (intOf s6).toNat)
  case atStart =>
    refine ⟨_, _, rfl, rfl, by omega, by omega, by decide, Lib.hid ?_, by decide, rfl⟩
    exact HC.out.symm
  case round =>
    obtain ⟨r, k, rfl, rfl, r1, r2, k1, HK, k2, rfl⟩ := hrel
    by_cases hr : 0 < r
    · have hl := len_step r hr r2
      have hl2 := len_range (r / 256)
      have hk9 : k + 1 ≤ 9 := by
        have := HK.out
        have := HC.out
        have := (len_range ((-121 - n) / 256)).2
        omega
      have HN : Hid (k + 1 + len (r / 256) = c) := Lib.hid (by have := HK.out; omega)
      clear hl hl2 HK HC
      go_wp2
      go_roundw
      case rel => exact ⟨_, _, rfl, rfl, by omega, by omega, by omega, HN, hk9, trivial⟩
      case measure => simp [intOf]; omega
    · obtain rfl : r = 0 := by omega
      have hk : k = c := by have := HK.out; have e : len 0 = 0 := by decide
                            omega
      subst hk
      go_wp2
      go_ret2
      exact ⟨rfl, rfl⟩

set_option maxHeartbeats 2000000 in
theorem split_pos (n : Int) (w : World) (hn : isI n) (h1 : 119 < n) :
    Calls Try.prog 37 #[.int .i64 n] w fun e w' => e = .returned (.tuple #[.int .i64 (cnt (n - 120)), .int .u64 (n - 120)]) ∧ w' = w := by
  obtain ⟨n1, n2⟩ := hn
  have HC : Hid (cnt (n - 120) = 1 + len ((n - 120) / 256)) := Lib.hid rfl
  generalize cnt (n - 120) = c at *
  have hm : 0 ≤ n - 120 ∧ n - 120 ≤ 9223372036854775807 := by omega
  go_enter Try.func37, Try.ntmps37
  go_wp2_with (fail)
  go_loopw [5, 6] (fun s5 s6 wr => ∃ (r k : Int), s6 = .int .u64 r ∧ s5 = .int .i64 k ∧ 0 ≤ r ∧ r < 18446744073709551616 ∧ 0 ≤ k ∧ Hid (k + len r = c) ∧ k ≤ 9 ∧ wr = w) (fun _ s6 _ => (intOf s6).toNat)
  case atStart =>
    refine ⟨_, _, rfl, rfl, by omega, by omega, by decide, Lib.hid ?_, by decide, rfl⟩
    exact HC.out.symm
  case round =>
    obtain ⟨r, k, rfl, rfl, r1, r2, k1, HK, k2, rfl⟩ := hrel
    by_cases hr : 0 < r
    · have hl := len_step r hr r2
      have hl2 := len_range (r / 256)
      have hk9 : k + 1 ≤ 9 := by
        have := HK.out
        have := HC.out
        have := (len_range ((n - 120) / 256)).2
        omega
      have HN : Hid (k + 1 + len (r / 256) = c) := Lib.hid (by have := HK.out; omega)
      clear hl hl2 HK HC
      go_wp2
      go_roundw
      case rel => exact ⟨_, _, rfl, rfl, by omega, by omega, by omega, HN, hk9, trivial⟩
      case measure => simp [intOf]; omega
    · obtain rfl : r = 0 := by omega
      have hk : k = c := by have := HK.out; have e : len 0 = 0 := by decide
                            omega
      subst hk
      go_wp2
      go_ret2
      exact ⟨rfl, rfl⟩

set_option maxHeartbeats 1000000 in
theorem refInt_one (A : Option Addr) (cap : Nat) (Z : List Int) (n : Int) (w : World) (hl : Lies w .u8 w.heap.size A Z) (hlen : ((Z.length : Nat) : Int) ≤ 100000) (h1 : -120 ≤ n) (h2 : n ≤ 119) :
    Calls Try.prog 14 #[.slice A Z.length cap, .int .i64 n] w fun e w' => ∃ v, e = .returned v ∧ Own w' w.heap.size v (Z ++ [n + 128]) ∧ Below w.heap.size w w' := by
  have HL := Lib.hid hl
  clear hl
  go_enter Try.func14, Try.ntmps14
  go_wp2_with (with_reducible refine stop_at (o := ⟨some 12, _, _, _, _, _⟩) ?_)
  unfold Stop
  refine app_own rfl (.tmp 10) (.tmp 11) rfl w A cap Z.length Z rfl rfl rfl HL (by omega) ?_
  intro v1 w1 H1 B1
  go_wp2_with (fail)
  refine (split_one n _ h1 h2).mono ?_
  rintro e w2 ⟨rfl, rfl⟩
  go_wp2_with (with_reducible refine stop_at (o := ⟨some 25, _, _, _, _, _⟩) ?_)
  unfold Stop
  refine app_one rfl (.tmp 20) (.tmp 24) rfl w.heap.size w w2 _ v1 Z (n + 128) rfl rfl H1 (by omega) (Nat.le_refl _) B1 ?_
  intro v2 w3 H2 B2
  go_wp2
  go_ret
  exact ⟨v2, rfl, H2.out, B2.out⟩

set_option maxHeartbeats 2000000 in
theorem refInt_neg (A : Option Addr) (cap : Nat) (Z : List Int) (n m c : Int) (k : Nat) (w : World) (hl : Lies w .u8 w.heap.size A Z) (hlen : ((Z.length : Nat) : Int) ≤ 100000) (hn : isI n) (h1 : n < -120) (hm : m = (-121 - n)) (hc : c = cnt m) (hk : c = k) :
    Calls Try.prog 14 #[.slice A Z.length cap, .int .i64 n] w fun e w' => ∃ v, e = .returned v ∧ Own w' w.heap.size v (Z ++ (8 - c) :: be (WireAppend.flip true) m k) ∧ Below w.heap.size w w' := by
  have hm0 : 0 ≤ m ∧ m < 18446744073709551616 := by obtain ⟨n1, n2⟩ := hn; omega
  have hcr := cnt_range m hm0.1 hm0.2
  rw [← hc] at hcr
  have HS : Hid (∀ w, Calls Try.prog 37 #[.int .i64 n] w fun e w' => e = .returned (.tuple #[.int .i64 c, .int .u64 m]) ∧ w' = w) := Lib.hid fun w => by rw [hc, hm]; exact split_neg n w hn h1
  have HL := Lib.hid hl
  have HG : Hid (∀ L, Z ++ [8 - c] ++ L = Z ++ (8 - c) :: L) := Lib.hid fun L => by simp
  have HLN : Hid ((((Z ++ (8 - c) :: be (WireAppend.flip true) m k).length : Nat) : Int) ≤ 100009) := Lib.hid (by rw [List.length_append, List.length_cons, be_length]; omega)
  obtain ⟨G, hG⟩ : ∃ G, G = Z ++ (8 - c) :: be (WireAppend.flip true) m k := ⟨_, rfl⟩
  have HGG := Lib.hid hG
  rw [← hG] at HLN ⊢
  have HK := Lib.hid hk
  have hneg : n < 0 := by omega
  have hc0 : 0 ≤ 247 + c ∧ 247 + c ≤ 255 := by omega
  have hc1 : 0 ≤ 8 - c ∧ 8 - c ≤ 255 := by omega
  have hcz : (c == 0) = false := beq_eq_false_iff_ne.2 (by omega)
  have HBE : Hid (∀ j, be (WireAppend.flip true) m (j + 1) = (255 - m / 2 ^ (8 * j) % 256) :: be (WireAppend.flip true) m j) := Lib.hid fun j => by
    show WireAppend.flip true (m / 256 ^ j % 256) :: _ = _
    rw [Int.pow_mul, show (2 : Int) ^ 8 = 256 by decide]
    rfl
  clear hl hG hk hn h1 hm hc
  go_enter Try.func14, Try.ntmps14
  go_wp2_with (with_reducible refine stop_at (o := ⟨some 12, _, _, _, _, _⟩) ?_)
  unfold Stop
  refine app_own rfl (.tmp 10) (.tmp 11) rfl w A cap Z.length Z rfl rfl rfl HL (by omega) ?_
  intro v1 w1 H1 B1
  go_wp2_with (fail)
  refine (HS.out _).mono ?_
  rintro e w2 ⟨rfl, rfl⟩
  go_wp2_with (with_reducible refine stop_at (o := ⟨some 33, _, _, _, _, _⟩) ?_)
  unfold Stop
  refine app_one rfl (.tmp 28) (.tmp 32) rfl w.heap.size w w2 _ v1 Z (8 - c) rfl rfl H1 (by omega) (Nat.le_refl _) B1 ?_
  intro v2 w3 H2 B2
  go_wp2_with (fail)
  go_loopw [5, 8, 9] (fun s5 s8 s9 wr => ∃ (v : Value) (j : Nat) (x : Int) (D : List Int), s5 = v ∧ s8 = .int .i64 x ∧ x = (j : Int) - 1 ∧ (j : Int) ≤ 8 ∧ Hid (Own wr w.heap.size v D) ∧ Hid (Below w.heap.size w wr) ∧ Hid (D ++ be (WireAppend.flip true) m j = G)) (fun _ s8 _ _ => ((intOf s8) + 1).toNat)
  case atStart => exact ⟨v2, k, _, _, rfl, rfl, by have := HK.out; omega, by have := HK.out; omega, H2, B2, Lib.hid ((HG.out _).trans HGG.out.symm)⟩
  case round =>
    obtain ⟨v, j, x, D, rfl, rfl, hx, hj, HD, HB, HE⟩ := hrel
    cases j with
    | zero =>
      obtain rfl : x = -1 := by omega
      have hD : D = G := by have := HE.out; simpa [be] using this
      subst hD
      clear hx hj
      go_wp2
      go_ret
      exact ⟨_, rfl, HD.out, HB.out⟩
    | succ j =>
      obtain rfl : x = j := by omega
      have hj7 : ((j : Nat) : Int) ≤ 7 := by omega
      clear hj hx
      have HDL : Hid (((D.length : Nat) : Int) ≤ 100009) := Lib.hid (by
        have := HLN.out
        rw [← HE.out, List.length_append] at this
        omega)
      have HN : Hid (D ++ [255 - m / 2 ^ (8 * j) % 256] ++ be (WireAppend.flip true) m j = G) := Lib.hid (by rw [← HE.out, HBE.out, List.append_assoc]; rfl)
      go_wp2_with (with_reducible refine stop_at (o := ⟨some 58, _, _, _, _, _⟩) ?_)
      unfold Stop
      refine app_one rfl (.tmp 55) (.tmp 57) rfl w.heap.size w wr _ _ D (255 - m / 2 ^ (8 * j) % 256) rfl rfl HD (by have := HDL.out; omega) (Nat.le_refl _) HB ?_
      intro v3 w4 H3 B3
      go_wp2
      go_roundw
      case rel => exact ⟨v3, j, _, _, rfl, rfl, rfl, by omega, H3, B3, HN⟩
      case measure => simp [intOf]

set_option maxHeartbeats 2000000 in
theorem refInt_pos (A : Option Addr) (cap : Nat) (Z : List Int) (n m c : Int) (k : Nat) (w : World) (hl : Lies w .u8 w.heap.size A Z) (hlen : ((Z.length : Nat) : Int) ≤ 100000) (hn : isI n) (h1 : 119 < n) (hm : m = (n - 120)) (hc : c = cnt m) (hk : c = k) :
    Calls Try.prog 14 #[.slice A Z.length cap, .int .i64 n] w fun e w' => ∃ v, e = .returned v ∧ Own w' w.heap.size v (Z ++ (247 + c) :: be (WireAppend.flip false) m k) ∧ Below w.heap.size w w' := by
  have hm0 : 0 ≤ m ∧ m < 18446744073709551616 := by obtain ⟨n1, n2⟩ := hn; omega
  have hcr := cnt_range m hm0.1 hm0.2
  rw [← hc] at hcr
  have HS : Hid (∀ w, Calls Try.prog 37 #[.int .i64 n] w fun e w' => e = .returned (.tuple #[.int .i64 c, .int .u64 m]) ∧ w' = w) := Lib.hid fun w => by rw [hc, hm]; exact split_pos n w hn h1
  have HL := Lib.hid hl
  have HG : Hid (∀ L, Z ++ [247 + c] ++ L = Z ++ (247 + c) :: L) := Lib.hid fun L => by simp
  have HLN : Hid ((((Z ++ (247 + c) :: be (WireAppend.flip false) m k).length : Nat) : Int) ≤ 100009) := Lib.hid (by rw [List.length_append, List.length_cons, be_length]; omega)
  obtain ⟨G, hG⟩ : ∃ G, G = Z ++ (247 + c) :: be (WireAppend.flip false) m k := ⟨_, rfl⟩
  have HGG := Lib.hid hG
  rw [← hG] at HLN ⊢
  have HK := Lib.hid hk
  have hneg : 0 ≤ n := by omega
  have hc0 : 0 ≤ 247 + c ∧ 247 + c ≤ 255 := by omega
  have hc1 : 0 ≤ 8 - c ∧ 8 - c ≤ 255 := by omega
  have hcz : (c == 0) = false := beq_eq_false_iff_ne.2 (by omega)
  have HBE : Hid (∀ j, be (WireAppend.flip false) m (j + 1) = (m / 2 ^ (8 * j) % 256) :: be (WireAppend.flip false) m j) := Lib.hid fun j => by
    show WireAppend.flip false (m / 256 ^ j % 256) :: _ = _
    rw [Int.pow_mul, show (2 : Int) ^ 8 = 256 by decide]
    rfl
  clear hl hG hk hn h1 hm hc
  go_enter Try.func14, Try.ntmps14
  go_wp2_with (with_reducible refine stop_at (o := ⟨some 12, _, _, _, _, _⟩) ?_)
  unfold Stop
  refine app_own rfl (.tmp 10) (.tmp 11) rfl w A cap Z.length Z rfl rfl rfl HL (by omega) ?_
  intro v1 w1 H1 B1
  go_wp2_with (fail)
  refine (HS.out _).mono ?_
  rintro e w2 ⟨rfl, rfl⟩
  go_wp2_with (with_reducible refine stop_at (o := ⟨some 39, _, _, _, _, _⟩) ?_)
  unfold Stop
  refine app_one rfl (.tmp 34) (.tmp 38) rfl w.heap.size w w2 _ v1 Z (247 + c) rfl rfl H1 (by omega) (Nat.le_refl _) B1 ?_
  intro v2 w3 H2 B2
  go_wp2_with (fail)
  go_loopw [5, 8, 9] (fun s5 s8 s9 wr => ∃ (v : Value) (j : Nat) (x : Int) (D : List Int), s5 = v ∧ s8 = .int .i64 x ∧ x = (j : Int) - 1 ∧ (j : Int) ≤ 8 ∧ Hid (Own wr w.heap.size v D) ∧ Hid (Below w.heap.size w wr) ∧ Hid (D ++ be (WireAppend.flip false) m j = G)) (fun _ s8 _ _ => ((intOf s8) + 1).toNat)
  case atStart => exact ⟨v2, k, _, _, rfl, rfl, by have := HK.out; omega, by have := HK.out; omega, H2, B2, Lib.hid ((HG.out _).trans HGG.out.symm)⟩
  case round =>
    obtain ⟨v, j, x, D, rfl, rfl, hx, hj, HD, HB, HE⟩ := hrel
    cases j with
    | zero =>
      obtain rfl : x = -1 := by omega
      have hD : D = G := by have := HE.out; simpa [be] using this
      subst hD
      clear hx hj
      go_wp2
      go_ret
      exact ⟨_, rfl, HD.out, HB.out⟩
    | succ j =>
      obtain rfl : x = j := by omega
      have hj7 : ((j : Nat) : Int) ≤ 7 := by omega
      clear hj hx
      have HDL : Hid (((D.length : Nat) : Int) ≤ 100009) := Lib.hid (by
        have := HLN.out
        rw [← HE.out, List.length_append] at this
        omega)
      have HN : Hid (D ++ [m / 2 ^ (8 * j) % 256] ++ be (WireAppend.flip false) m j = G) := Lib.hid (by rw [← HE.out, HBE.out, List.append_assoc]; rfl)
      go_wp2_with (with_reducible refine stop_at (o := ⟨some 58, _, _, _, _, _⟩) ?_)
      unfold Stop
      refine app_one rfl (.tmp 55) (.tmp 57) rfl w.heap.size w wr _ _ D (m / 2 ^ (8 * j) % 256) rfl rfl HD (by have := HDL.out; omega) (Nat.le_refl _) HB ?_
      intro v3 w4 H3 B3
      go_wp2
      go_roundw
      case rel => exact ⟨v3, j, _, _, rfl, rfl, rfl, by omega, H3, B3, HN⟩
      case measure => simp [intOf]

/-- The reference's 'Int' for every integer. -/
theorem refInt_any (A : Option Addr) (cap : Nat) (Z : List Int) (n : Int) (w : World) (hl : Lies w .u8 w.heap.size A Z) (hlen : ((Z.length : Nat) : Int) ≤ 100000) (hn : isI n) :
    Calls Try.prog 14 #[.slice A Z.length cap, .int .i64 n] w fun e w' => ∃ v, e = .returned v ∧ Own w' w.heap.size v (Z ++ enc n) ∧ Below w.heap.size w w' := by
  by_cases h1 : n < -120
  · have r := cnt_range (-121 - n) (by omega) (by obtain ⟨n1, n2⟩ := hn; omega)
    rw [WireOrd.enc_neg n h1]
    exact refInt_neg A cap Z n _ _ _ w hl hlen hn h1 rfl rfl (by omega)
  · by_cases h2 : n ≤ 119
    · rw [WireOrd.enc_one n (by omega) h2]
      exact refInt_one A cap Z n w hl hlen (by omega) h2
    · have r := cnt_range (n - 120) (by omega) (by obtain ⟨n1, n2⟩ := hn; omega)
      rw [WireOrd.enc_pos n (by omega)]
      exact refInt_pos A cap Z n _ _ _ w hl hlen hn (by omega) rfl rfl (by omega)

set_option maxHeartbeats 1000000 in
theorem refText_any (A : Option Addr) (cap : Nat) (Z : List Int) (s : ByteArray) (w : World) (hl : Lies w .u8 w.heap.size A Z) (hlen : ((Z.length : Nat) : Int) + s.size ≤ 50000) :
    Calls Try.prog 17 #[.slice A Z.length cap, .string s] w fun e w' => ∃ v', e = .returned v' ∧ Own w' w.heap.size v' (Z ++ encT s) ∧ Below w.heap.size w w' := by
  have hi : isI ((s.size : Nat) : Int) := ⟨by omega, by omega⟩
  have HA := Lib.hid (refInt_any A cap Z ((s.size : Nat) : Int) w hl (by omega) hi)
  have HE := Lib.hid (enc_length _ hi)
  have HT : Hid (∀ L, Z ++ enc ((s.size : Nat) : Int) ++ L = Z ++ (enc ((s.size : Nat) : Int) ++ L)) := Lib.hid fun L => List.append_assoc _ _ _
  unfold encT
  clear hl hi
  generalize enc ((s.size : Nat) : Int) = E at *
  go_enter Try.func17, Try.ntmps17
  go_wp2_with (fail)
  refine HA.out.mono ?_
  rintro e w1 ⟨v1, rfl, hown1, b1⟩
  have H1 := Lib.hid hown1
  have B1 := Lib.hid b1
  clear hown1 b1
  go_wp2_with (with_reducible refine stop_at (o := ⟨some 10, _, _, _, _, _⟩) ?_)
  unfold Stop
  refine app_text rfl (.tmp 8) (.tmp 9) rfl w.heap.size w w1 v1 (Z ++ E) s rfl rfl H1 (by have := HE.out; rw [List.length_append]; omega) (Nat.le_refl _) B1 ?_
  intro v2 w2 H2 B2
  go_wp2
  go_ret
  refine ⟨v2, rfl, ?_, B2.out⟩
  rw [← HT.out]
  exact H2.out

theorem refBool_write (A : Option Addr) (cap : Nat) (Z : List Int) (t : Bool) (w : World) (hl : Lies w .u8 w.heap.size A Z) (hlen : ((Z.length : Nat) : Int) ≤ 50000) :
    Calls Try.prog 19 #[.slice A Z.length cap, .bool t] w fun e w' => ∃ v, e = .returned v ∧ Own w' w.heap.size v (Z ++ enc (if t then 1 else 0)) ∧ Below w.heap.size w w' := by
  have HI := Lib.hid (refInt_any A cap Z (if t then 1 else 0) w hl (by omega) (by cases t <;> exact ⟨by decide, by decide⟩))
  clear hl hlen
  cases t
  all_goals
    go_enter Try.func19, Try.ntmps19
    go_wp2_with (fail)
    refine HI.out.mono ?_
    rintro e w1 ⟨v1, rfl, hown1, b1⟩
    go_wp2
    go_ret
    exact ⟨v1, rfl, hown1, b1⟩

set_option maxHeartbeats 2000000 in
theorem refInts_write (A : Option Addr) (cap : Nat) (Z : List Int) (B : Option Addr) (cb : Nat) (l : List Int) (w : World) (hl : Lies w .u8 w.heap.size A Z) (hm : Lies w .i64 w.heap.size B l) (hlen : (((Z ++ (enc ((l.length : Nat) : Int) ++ l.flatMap enc)).length : Nat) : Int) ≤ 40000) (hll : ((l.length : Nat) : Int) ≤ 40000) (hi : ∀ n ∈ l, isI n) :
    Calls Try.prog 21 #[.slice A Z.length cap, .slice B l.length cb] w fun e w' => ∃ A1 c1, e = .returned (.slice A1 (Z ++ (enc ((l.length : Nat) : Int) ++ l.flatMap enc)).length c1) ∧ Lies w' .u8 w'.heap.size A1 (Z ++ (enc ((l.length : Nat) : Int) ++ l.flatMap enc)) ∧ Below w.heap.size w w' := by
  have hz : ((Z.length : Nat) : Int) ≤ 40000 := by rw [List.length_append] at hlen; omega
  have HM := Lib.hid hm
  have hin : isI ((l.length : Nat) : Int) := ⟨by omega, by omega⟩
  have HI := Lib.hid (refInt_any A cap Z ((l.length : Nat) : Int) w hl (by omega) hin)
  obtain ⟨G, hG⟩ : ∃ G, G = Z ++ (enc ((l.length : Nat) : Int) ++ l.flatMap enc) := ⟨_, rfl⟩
  rw [← hG] at hlen ⊢
  have HG : Hid ((Z ++ enc ((l.length : Nat) : Int)) ++ (l.drop 0).flatMap enc = G) := Lib.hid (by rw [hG, List.drop_zero, List.append_assoc])
  have HLEN := Lib.hid hlen
  have HPUT := Lib.hid (fun (k : Nat) (hk : k < l.length) (A1 : Option Addr) (c1 : Nat) (D : List Int) (w1 : World) (h1 : Lies w1 .u8 w1.heap.size A1 D) (h3 : (((D ++ enc (l.getD k 0)).length : Nat) : Int) ≤ 40000) => refInt_any A1 c1 D (l.getD k 0) w1 h1 (by rw [List.length_append] at h3; omega) (hi _ (getD_mem l k hk)))
  have HSTEP : Hid (∀ k, k < l.length → (l.drop k).flatMap enc = enc (l.getD k 0) ++ (l.drop (k + 1)).flatMap enc) := Lib.hid fun k hk => by
    rw [List.drop_eq_getElem_cons hk, List.flatMap_cons]
    simp [List.getD, hk]
  clear hl hm hG hlen hin hz
  go_enter Try.func21, Try.ntmps21
  go_wp2_with (fail)
  refine HI.out.mono ?_
  rintro e w2 ⟨v2, rfl, hown2, b2⟩
  obtain ⟨A2, c2, rfl, l2⟩ := own_lies hown2
  have L2 := Lib.hid l2
  have B2 := Lib.hid b2
  clear hown2 b2 l2
  go_wp2_with (fail)
  go_loopw [5, 6] (fun s5 s6 wr => ∃ (A1 : Option Addr) (c1 : Nat) (k : Nat) (D : List Int), s5 = .slice A1 D.length c1 ∧ s6 = .int .i64 k ∧ k ≤ l.length ∧ Hid (Lies wr .u8 wr.heap.size A1 D) ∧ Hid (Below w.heap.size w wr) ∧ Hid (D ++ (l.drop k).flatMap enc = G)) (fun _ s6 _ => l.length - (intOf s6).toNat)
  case atStart => exact ⟨A2, c2, 0, _, by first | rfl | rw [List.length_append], rfl, Nat.zero_le _, L2, B2, HG⟩
  case round =>
    obtain ⟨A1, c1, k, D, rfl, rfl, hk, HD, HB, HE⟩ := hrel
    by_cases hlt : k < l.length
    · obtain ⟨ad, rfl, hcell⟩ := (HM.out.below HB.out).at_ hlt
      have hk' : ((k : Nat) : Int) < ((l.length : Nat) : Int) := by omega
      have HN : Hid (D ++ enc (l.getD k 0) ++ (l.drop (k + 1)).flatMap enc = G) := Lib.hid (by rw [List.append_assoc, ← HSTEP.out k hlt]; exact HE.out)
      have HP := Lib.hid (HPUT.out k hlt A1 c1 D wr HD.out (by have := HLEN.out; rw [← HN.out, List.length_append] at this; omega))
      have HE2 : Hid (∃ E, E = enc (l.getD k 0)) := Lib.hid ⟨_, rfl⟩
      generalize enc (l.getD k 0) = E at *
      generalize (l.getD k 0) = x at *
      go_wp2_with (fail)
      refine HP.out.mono ?_
      rintro e w3 ⟨v3, rfl, hown3, b3⟩
      obtain ⟨A3, c3, rfl, l3⟩ := own_lies hown3
      have L3 := Lib.hid l3
      have B3 := Lib.hid (bt HB.out b3)
      clear hown3 b3 l3
      go_wp2
      go_roundw
      case rel => exact ⟨A3, c3, k + 1, _, by first | rfl | rw [List.length_append], by go_num, by omega, L3, B3, HN⟩
      case measure => simp [intOf]; omega
    · obtain rfl : k = l.length := by omega
      have hD : D = G := by have := HE.out; simpa using this
      subst hD
      clear hk hlt
      go_wp2
      go_ret
      exact ⟨A1, c1, rfl, HD.out, HB.out⟩

set_option maxHeartbeats 2000000 in
theorem refTexts_write (A : Option Addr) (cap : Nat) (Z : List Int) (B : Option Addr) (cb : Nat) (l : List ByteArray) (w : World) (hl : Lies w .u8 w.heap.size A Z) (hm : LiesV w w.heap.size B (l.map Value.string)) (hlen : (((Z ++ (enc ((l.length : Nat) : Int) ++ l.flatMap encT)).length : Nat) : Int) ≤ 40000) (hll : ((l.length : Nat) : Int) ≤ 40000) :
    Calls Try.prog 23 #[.slice A Z.length cap, .slice B l.length cb] w fun e w' => ∃ A1 c1, e = .returned (.slice A1 (Z ++ (enc ((l.length : Nat) : Int) ++ l.flatMap encT)).length c1) ∧ Lies w' .u8 w'.heap.size A1 (Z ++ (enc ((l.length : Nat) : Int) ++ l.flatMap encT)) ∧ Below w.heap.size w w' := by
  have hz : ((Z.length : Nat) : Int) ≤ 40000 := by rw [List.length_append] at hlen; omega
  have HM := Lib.hid hm
  have hin : isI ((l.length : Nat) : Int) := ⟨by omega, by omega⟩
  have HI := Lib.hid (refInt_any A cap Z ((l.length : Nat) : Int) w hl (by omega) hin)
  obtain ⟨G, hG⟩ : ∃ G, G = Z ++ (enc ((l.length : Nat) : Int) ++ l.flatMap encT) := ⟨_, rfl⟩
  rw [← hG] at hlen ⊢
  have HG : Hid ((Z ++ enc ((l.length : Nat) : Int)) ++ (l.drop 0).flatMap encT = G) := Lib.hid (by rw [hG, List.drop_zero, List.append_assoc])
  have HLEN := Lib.hid hlen
  have HPUT := Lib.hid (fun (k : Nat) (hk : k < l.length) (A1 : Option Addr) (c1 : Nat) (D : List Int) (w1 : World) (h1 : Lies w1 .u8 w1.heap.size A1 D) (h3 : (((D ++ encT (l.getD k ByteArray.empty)).length : Nat) : Int) ≤ 40000) => refText_any A1 c1 D (l.getD k ByteArray.empty) w1 h1 (by unfold encT at h3; rw [List.length_append, List.length_append, bytesL_length] at h3; omega))
  have HSTEP : Hid (∀ k, k < l.length → (l.drop k).flatMap encT = encT (l.getD k ByteArray.empty) ++ (l.drop (k + 1)).flatMap encT) := Lib.hid fun k hk => by
    rw [List.drop_eq_getElem_cons hk, List.flatMap_cons]
    simp [List.getD, hk]
  clear hl hm hG hlen hin hz
  go_enter Try.func23, Try.ntmps23
  go_wp2_with (fail)
  refine HI.out.mono ?_
  rintro e w2 ⟨v2, rfl, hown2, b2⟩
  obtain ⟨A2, c2, rfl, l2⟩ := own_lies hown2
  have L2 := Lib.hid l2
  have B2 := Lib.hid b2
  clear hown2 b2 l2
  go_wp2_with (fail)
  go_loopw [5, 6] (fun s5 s6 wr => ∃ (A1 : Option Addr) (c1 : Nat) (k : Nat) (D : List Int), s5 = .slice A1 D.length c1 ∧ s6 = .int .i64 k ∧ k ≤ l.length ∧ Hid (Lies wr .u8 wr.heap.size A1 D) ∧ Hid (Below w.heap.size w wr) ∧ Hid (D ++ (l.drop k).flatMap encT = G)) (fun _ s6 _ => l.length - (intOf s6).toNat)
  case atStart => exact ⟨A2, c2, 0, _, by first | rfl | rw [List.length_append], rfl, Nat.zero_le _, L2, B2, HG⟩
  case round =>
    obtain ⟨A1, c1, k, D, rfl, rfl, hk, HD, HB, HE⟩ := hrel
    by_cases hlt : k < l.length
    · obtain ⟨ad, rfl, hcell⟩ := (HM.out.below HB.out).textAt hlt
      have hk' : ((k : Nat) : Int) < ((l.length : Nat) : Int) := by omega
      have HN : Hid (D ++ encT (l.getD k ByteArray.empty) ++ (l.drop (k + 1)).flatMap encT = G) := Lib.hid (by rw [List.append_assoc, ← HSTEP.out k hlt]; exact HE.out)
      have HP := Lib.hid (HPUT.out k hlt A1 c1 D wr HD.out (by have := HLEN.out; rw [← HN.out, List.length_append] at this; omega))
      have HE2 : Hid (∃ E, E = encT (l.getD k ByteArray.empty)) := Lib.hid ⟨_, rfl⟩
      generalize encT (l.getD k ByteArray.empty) = E at *
      generalize (l.getD k ByteArray.empty) = x at *
      go_wp2_with (fail)
      refine HP.out.mono ?_
      rintro e w3 ⟨v3, rfl, hown3, b3⟩
      obtain ⟨A3, c3, rfl, l3⟩ := own_lies hown3
      have L3 := Lib.hid l3
      have B3 := Lib.hid (bt HB.out b3)
      clear hown3 b3 l3
      go_wp2
      go_roundw
      case rel => exact ⟨A3, c3, k + 1, _, by first | rfl | rw [List.length_append], by go_num, by omega, L3, B3, HN⟩
      case measure => simp [intOf]; omega
    · obtain rfl : k = l.length := by omega
      have hD : D = G := by have := HE.out; simpa using this
      subst hD
      clear hk hlt
      go_wp2
      go_ret
      exact ⟨A1, c1, rfl, HD.out, HB.out⟩

end Go.Proofs.Ytcibkgmochikmaa.WireRef
