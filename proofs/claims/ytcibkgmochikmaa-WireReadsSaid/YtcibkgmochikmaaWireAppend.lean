/- The encoding of an integer: the walk of 'appendInt'. -/
import Derived.Test.YtcibkgmochikmaaWireInt
import Derived.Laws.BitsAllLaws
namespace Go.Proofs.Ytcibkgmochikmaa.WireAppend
set_option linter.unusedVariables false
open Go.RowKit Go.Proofs.Ytcibkgmochikmaa.WireBase Go.Proofs.Ytcibkgmochikmaa.WireInt

/-- The lowest k bytes of m, the greatest first. -/
def be (f : Int → Int) (m : Int) : Nat → List Int
  | 0 => []
  | k + 1 => f (m / 256 ^ k % 256) :: be f m k

theorem be_length (f : Int → Int) (m : Int) (k : Nat) : (be f m k).length = k := by
  induction k with
  | zero => rfl
  | succ k ih => simp [be, ih]

def flip (neg : Bool) (x : Int) : Int := if neg then 255 - x else x
def head (neg : Bool) (k : Int) : Int := if neg then 8 - k else 247 + k
/-- The encoding. -/
def enc (n : Int) : List Int := if isOne n then [n + 128] else head (decide (n < -120)) (cnt (mag n)) :: be (flip (decide (n < -120))) (mag n) (cnt (mag n)).toNat

theorem flip_range (neg : Bool) (x : Int) (h : 0 ≤ x ∧ x ≤ 255) : 0 ≤ flip neg x ∧ flip neg x ≤ 255 := by unfold flip; split <;> omega

theorem be_bytes (neg : Bool) (m : Int) (k : Nat) : Bytes (be (flip neg) m k) := by
  induction k with
  | zero => intro n h; cases h
  | succ k ih =>
    intro n h
    rcases List.mem_cons.1 h with rfl | h
    · exact flip_range neg _ (by omega)
    · exact ih n h

theorem mag_range (n : Int) (h : isI n) : 0 ≤ mag n ∧ mag n ≤ 9223372036854775687 := by
  obtain ⟨h1, h2⟩ := h
  unfold mag
  split
  · omega
  · split <;> omega

theorem enc_bytes (n : Int) (h : isI n) : Bytes (enc n) := by
  unfold enc
  have r := mag_range n h
  have c := cnt_range (mag n) r.1 (by omega)
  by_cases h1 : isOne n = true
  · rw [if_pos h1]
    intro x hx
    obtain rfl : x = n + 128 := by simpa using hx
    unfold isOne at h1
    simp at h1
    omega
  · rw [if_neg h1]
    intro x hx
    rcases List.mem_cons.1 hx with rfl | hx
    · unfold head; split <;> omega
    · exact be_bytes _ _ _ x hx

theorem enc_length (n : Int) (h : isI n) : 1 ≤ (enc n).length ∧ (enc n).length ≤ 9 := by
  unfold enc
  have r := mag_range n h
  have c := cnt_range (mag n) r.1 (by omega)
  split
  · simp
  · rw [List.length_cons, be_length]; omega

set_option maxRecDepth 100000 in
theorem xor_flip (neg : Bool) (x : Int) (h : 0 ≤ x ∧ x ≤ 255) : bits .xor .u8 x (if neg then 255 else 0) = flip neg x := by
  obtain ⟨n, rfl⟩ : ∃ n : Nat, x = n := ⟨x.toNat, by omega⟩
  have hn : n < 256 := by omega
  have all : ∀ c : Fin 256, bits .xor .u8 ((c.val : Nat) : Int) 0 = ((c.val : Nat) : Int) ∧ bits .xor .u8 ((c.val : Nat) : Int) 255 = 255 - ((c.val : Nat) : Int) := by decide
  have := all ⟨n, hn⟩
  cases neg
  · exact this.1
  · exact this.2

set_option maxHeartbeats 1000000 in
theorem append_one (base : Nat) (v : Value) (Z : List Int) (n : Int) (w : World) (hown : Own w base v Z) (hbase : base ≤ w.heap.size) (hlen : ((Z.length : Nat) : Int) ≤ 100000) (h1 : -120 ≤ n) (h2 : n ≤ 119) :
    Calls Try.prog 35 #[v, .int .i64 n] w fun e w' => ∃ v', e = .returned v' ∧ Own w' base v' (Z ++ [n + 128]) ∧ Below base w w' := by
  have HR : Hid (∀ w, Calls Try.prog 38 #[.int .i64 n] w fun e w' => e = .returned (.tuple #[.int .u64 (mag n), .bool false, .bool true]) ∧ w = w') := Lib.hid fun w => by
    have := rest_any n w ⟨by omega, by omega⟩
    rwa [decide_eq_false (show ¬ n < -120 by omega), show isOne n = true by unfold isOne; rw [decide_eq_true h1, decide_eq_true h2]; rfl] at this
  have HO := Lib.hid hown
  clear hown
  generalize mag n = m at *
  go_enter Try.func35, Try.ntmps35
  go_wp2_with (fail)
  refine (HR.out _).mono ?_
  rintro e w1 ⟨rfl, rfl⟩
  go_wp2_with (with_reducible refine stop_at (o := ⟨some 24, _, _, _, _, _⟩) ?_)
  unfold Stop
  refine app_one rfl (.tmp 19) (.tmp 23) rfl base w w _ v Z (n + 128) rfl rfl HO (by omega) hbase (Lib.hid (Below.refl _ _)) ?_
  intro v1 w2 H1 B1
  go_wp2
  go_ret
  exact ⟨v1, rfl, H1.out, B1.out⟩


theorem byte_flip (neg : Bool) (m : Int) (j : Nat) : bits .xor .u8 (m / 2 ^ (8 * j) % 256) (if neg then 255 else 0) = flip neg (m / 256 ^ j % 256) := by
  rw [Int.pow_mul, show (2 : Int) ^ 8 = 256 by decide]
  exact xor_flip neg _ (by omega)

set_option maxHeartbeats 2000000 in
theorem append_more (base : Nat) (v : Value) (Z : List Int) (n : Int) (w : World) (neg : Bool) (m c : Int) (k : Nat) (hown : Own w base v Z) (hbase : base ≤ w.heap.size) (hlen : ((Z.length : Nat) : Int) ≤ 100000) (hm1 : 0 ≤ m) (hm2 : m < 18446744073709551616) (hk : c = k) (hk1 : 1 ≤ c) (hk8 : c ≤ 8)
    (HR : Hid (∀ w, Calls Try.prog 38 #[.int .i64 n] w fun e w' => e = .returned (.tuple #[.int .u64 m, .bool neg, .bool false]) ∧ w = w')) (HC : Hid (∀ w, Calls Try.prog 39 #[.int .u64 m] w fun e w' => e = .returned (.int .i64 c) ∧ w = w')) :
    Calls Try.prog 35 #[v, .int .i64 n] w fun e w' => ∃ v', e = .returned v' ∧ Own w' base v' (Z ++ head neg c :: be (flip neg) m k) ∧ Below base w w' := by
  have HO := Lib.hid hown
  have HG : Hid (∀ L, Z ++ [head neg c] ++ L = Z ++ head neg c :: L) := Lib.hid fun L => by simp
  have HL : Hid ((((Z ++ head neg c :: be (flip neg) m k).length : Nat) : Int) ≤ 100009) := Lib.hid (by rw [List.length_append, List.length_cons, be_length]; omega)
  obtain ⟨G, hG⟩ : ∃ G, G = Z ++ head neg c :: be (flip neg) m k := ⟨_, rfl⟩
  have HGG := Lib.hid hG
  rw [← hG] at HL ⊢
  have HX := Lib.hid (byte_flip neg m)
  have HK := Lib.hid hk
  clear hown hG hk
  have hc0 : 0 ≤ 247 + c ∧ 247 + c ≤ 255 := by omega
  have hc1 : 0 ≤ 8 - c ∧ 8 - c ≤ 255 := by omega
  cases neg
  · go_enter Try.func35, Try.ntmps35
    go_wp2_with (fail)
    refine (HR.out _).mono ?_
    rintro e w1 ⟨rfl, rfl⟩
    go_wp2_with (fail)
    refine (HC.out _).mono ?_
    rintro e w1 ⟨rfl, rfl⟩
    go_wp2_with (with_reducible refine stop_at (o := ⟨some 37, _, _, _, _, _⟩) ?_)
    unfold Stop
    refine app_one rfl (.tmp 34) (.tmp 36) rfl base w w _ v Z (247 + c) rfl rfl HO (by omega) hbase (Lib.hid (Below.refl _ _)) ?_
    intro v1 w2 H1 B1
    go_wp2_with (fail)
    go_loopw [0, 11] (fun s0 s11 wr => ∃ (v2 : Value) (j : Nat) (x : Int) (D : List Int), s0 = v2 ∧ s11 = .int .i64 x ∧ x = (j : Int) - 1 ∧ (j : Int) ≤ 8 ∧ Hid (Own wr base v2 D) ∧ Hid (Below base w wr) ∧ Hid (D ++ be (flip false) m j = G)) (fun _ s11 _ => ((intOf s11) + 1).toNat)
    case atStart => exact ⟨v1, k, _, _, rfl, rfl, by have := HK.out; omega, by have := HK.out; omega, H1, B1, Lib.hid ((HG.out _).trans HGG.out.symm)⟩
    case round =>
      obtain ⟨v2, j, x, D, rfl, rfl, hx, hj, HD, HB, HE⟩ := hrel
      cases j with
      | zero =>
        obtain rfl : x = -1 := by omega
        have hD : D = G := by have := HE.out; simpa [be] using this
        subst hD
        clear hx hj
        go_wp2
        go_ret
        exact ⟨_, rfl, HD.out, HB.out⟩
      | succ j =>
        obtain rfl : x = j := by omega
        have hj7 : ((j : Nat) : Int) ≤ 7 := by omega
        clear hj hx
        go_wp2_with (with_reducible refine stop_at (o := ⟨some 53, _, _, _, _, _⟩) ?_)
        unfold Stop
        have HDL : Hid (((D.length : Nat) : Int) ≤ 100009) := Lib.hid (by
          have := HL.out
          rw [← HE.out, List.length_append] at this
          omega)
        refine app_one rfl (.tmp 44) (.tmp 52) rfl base w wr _ _ D _ rfl rfl HD (by have := HDL.out; omega) hbase HB ?_
        intro v3 w3 H3 B3
        have HE3 : Hid (D ++ [bits .xor .u8 (m / 2 ^ (8 * j) % 256) 0] ++ be (flip false) m j = G) := Lib.hid (by
          have h : bits .xor .u8 (m / 2 ^ (8 * j) % 256) 0 = flip false (m / 256 ^ j % 256) := HX.out j
          rw [h, ← HE.out, List.append_assoc]
          rfl)
        go_wp2
        go_roundw
        case rel => exact ⟨v3, j, _, _, rfl, rfl, rfl, by omega, H3, B3, HE3⟩
        case measure => simp [intOf]
  · go_enter Try.func35, Try.ntmps35
    go_wp2_with (fail)
    refine (HR.out _).mono ?_
    rintro e w1 ⟨rfl, rfl⟩
    go_wp2_with (fail)
    refine (HC.out _).mono ?_
    rintro e w1 ⟨rfl, rfl⟩
    go_wp2_with (with_reducible refine stop_at (o := ⟨some 37, _, _, _, _, _⟩) ?_)
    unfold Stop
    refine app_one rfl (.tmp 34) (.tmp 36) rfl base w w _ v Z (8 - c) rfl rfl HO (by omega) hbase (Lib.hid (Below.refl _ _)) ?_
    intro v1 w2 H1 B1
    go_wp2_with (fail)
    go_loopw [0, 11] (fun s0 s11 wr => ∃ (v2 : Value) (j : Nat) (x : Int) (D : List Int), s0 = v2 ∧ s11 = .int .i64 x ∧ x = (j : Int) - 1 ∧ (j : Int) ≤ 8 ∧ Hid (Own wr base v2 D) ∧ Hid (Below base w wr) ∧ Hid (D ++ be (flip true) m j = G)) (fun _ s11 _ => ((intOf s11) + 1).toNat)
    case atStart => exact ⟨v1, k, _, _, rfl, rfl, by have := HK.out; omega, by have := HK.out; omega, H1, B1, Lib.hid ((HG.out _).trans HGG.out.symm)⟩
    case round =>
      obtain ⟨v2, j, x, D, rfl, rfl, hx, hj, HD, HB, HE⟩ := hrel
      cases j with
      | zero =>
        obtain rfl : x = -1 := by omega
        have hD : D = G := by have := HE.out; simpa [be] using this
        subst hD
        clear hx hj
        go_wp2
        go_ret
        exact ⟨_, rfl, HD.out, HB.out⟩
      | succ j =>
        obtain rfl : x = j := by omega
        have hj7 : ((j : Nat) : Int) ≤ 7 := by omega
        clear hj hx
        go_wp2_with (with_reducible refine stop_at (o := ⟨some 53, _, _, _, _, _⟩) ?_)
        unfold Stop
        have HDL : Hid (((D.length : Nat) : Int) ≤ 100009) := Lib.hid (by
          have := HL.out
          rw [← HE.out, List.length_append] at this
          omega)
        refine app_one rfl (.tmp 44) (.tmp 52) rfl base w wr _ _ D _ rfl rfl HD (by have := HDL.out; omega) hbase HB ?_
        intro v3 w3 H3 B3
        have HE3 : Hid (D ++ [bits .xor .u8 (m / 2 ^ (8 * j) % 256) 255] ++ be (flip true) m j = G) := Lib.hid (by
          have h : bits .xor .u8 (m / 2 ^ (8 * j) % 256) 255 = flip true (m / 256 ^ j % 256) := HX.out j
          rw [h, ← HE.out, List.append_assoc]
          rfl)
        go_wp2
        go_roundw
        case rel => exact ⟨v3, j, _, _, rfl, rfl, rfl, by omega, H3, B3, HE3⟩
        case measure => simp [intOf]

/-- 'appendInt' for every integer. -/
theorem append_any (base : Nat) (v : Value) (Z : List Int) (n : Int) (w : World) (hown : Own w base v Z) (hbase : base ≤ w.heap.size) (hlen : ((Z.length : Nat) : Int) ≤ 100000) (hn : isI n) :
    Calls Try.prog 35 #[v, .int .i64 n] w fun e w' => ∃ v', e = .returned v' ∧ Own w' base v' (Z ++ enc n) ∧ Below base w w' := by
  have r := mag_range n hn
  have c := cnt_range (mag n) r.1 (by omega)
  by_cases h : isOne n = true
  · have h' : -120 ≤ n ∧ n ≤ 119 := by unfold isOne at h; simpa using h
    unfold enc
    rw [if_pos h]
    exact append_one base v Z n w hown hbase hlen h'.1 h'.2
  · have hf : isOne n = false := by simpa using h
    unfold enc
    rw [if_neg h]
    refine append_more base v Z n w _ (mag n) (cnt (mag n)) _ hown hbase hlen r.1 (by omega) (by omega) c.1 c.2 (Lib.hid fun w => ?_) (Lib.hid fun w => count_any _ w r.1 (by omega))
    have := rest_any n w hn
    rwa [hf] at this

set_option maxHeartbeats 1000000 in
theorem int_any (A : Option Addr) (cap : Nat) (Z : List Int) (n : Int) (w : World) (hl : Lies w .u8 w.heap.size A Z) (hlen : ((Z.length : Nat) : Int) ≤ 100000) (hA : A = none → cap = 0) (hn : isI n) :
    Calls Try.prog 12 #[.slice A Z.length cap, .int .i64 n] w fun e w' => ∃ v, e = .returned v ∧ Own w' w.heap.size v (Z ++ enc n) ∧ Below w.heap.size w w' := by
  have HC := Lib.hid (clone_any A cap Z w hl (by omega) hA)
  have HAP := Lib.hid (fun (v : Value) (w1 : World) (h1 : Own w1 w.heap.size v Z) (h2 : w.heap.size ≤ w1.heap.size) => append_any w.heap.size v Z n w1 h1 h2 hlen hn)
  clear hl hlen hA hn
  generalize enc n = E at *
  go_enter Try.func12, Try.ntmps12
  go_wp2_with (fail)
  refine HC.out.mono ?_
  rintro e w1 ⟨v1, rfl, hown1, b1⟩
  go_wp2_with (fail)
  refine (HAP.out v1 w1 hown1 b1.size).mono ?_
  rintro e w2 ⟨v2, rfl, hown2, b2⟩
  go_wp2
  go_ret
  exact ⟨v2, rfl, hown2, b1.trans b2⟩

end Go.Proofs.Ytcibkgmochikmaa.WireAppend
