/- What 'awake' of the statements about wire comes to. -/
import Derived.Test.YtcibkgmochikmaaWireSrc
namespace Go.Proofs.Ytcibkgmochikmaa.WireAwake
set_option linter.unusedVariables false
open Go.RowKit Go.Proofs.Ytcibkgmochikmaa.WireBase Go.Proofs.Ytcibkgmochikmaa.WireInt Go.Proofs.Ytcibkgmochikmaa.WireAppend Go.Proofs.Ytcibkgmochikmaa.WireRead Go.Proofs.Ytcibkgmochikmaa.WireParse Go.Proofs.Ytcibkgmochikmaa.WireSrc

set_option maxHeartbeats 1000000 in
theorem int_read (g cap : Nat) (A : Option Addr) (Z : List Int) (lo hi : Int) (w : World) (hs : Src w g (.slice A Z.length cap) 0) (hl : Lies w .u8 w.heap.size A Z) (hb : Bytes Z) (hn : Z.length ≤ cap) (hc : (cap : Int) ≤ 9223372036854775807) :
    Calls Try.prog 32 #[.pointer (some ⟨g, 0, none⟩), .int .i64 lo, .int .i64 hi] w fun r w' => ∃ v, r = .returned (.int .i64 v) ∧ ReadI w w' g A cap Z lo hi v := by
  have b2 : Below w.heap.size w ((w.alloc (.cells #[.int .i64 lo] 3)).alloc (.cells #[.int .i64 hi] 3)) := ((Below.refl _ _).alloc (Nat.le_refl _) _).alloc (by go_size) _
  have HR := Lib.hid (readI_any g w.heap.size (w.heap.size + 1) cap A Z lo hi ((w.alloc (.cells #[.int .i64 lo] 3)).alloc (.cells #[.int .i64 hi] 3)) (hs.below b2) (hl.later b2) hb hn hc (by go_cell) (by go_cell) (by go_size) (by go_size))
  have HB := Lib.hid b2
  clear hs hl hb hn hc b2
  go_enter Try.func32, Try.ntmps32
  go_wp2_with (fail)
  refine HR.out.mono ?_
  rintro r w1 ⟨v, rfl, ho, hw⟩
  have H := Lib.hid hw
  have HO := Lib.hid ho
  clear hw ho
  go_wp2
  go_ret
  exact ⟨v, rfl, (Only.of_below HB.out).trans HO.out, H.out⟩

theorem end_any (g n cap : Nat) (A : Option Addr) (e r : Int) (w : World) (hs : Src w g (.slice A n cap) e) (h : ((e == 0) = false ∧ r = e) ∨ ((e == 0) = true ∧ n = 0 ∧ r = 0) ∨ ((e == 0) = true ∧ 0 < n ∧ r = 4)) :
    Calls Try.prog 26 #[.pointer (some ⟨g, 0, none⟩)] w fun q w' => q = .returned (.int .i64 r) ∧ w' = w := by
  have c0 := hs.rest
  have c1 := hs.err
  rcases h with ⟨h1, rfl⟩ | ⟨h1, rfl, rfl⟩ | ⟨h1, h2, rfl⟩
  · go_enter Try.func26, Try.ntmps26
    go_wp2
    go_ret
    exact ⟨rfl, rfl⟩
  · obtain rfl := beq_iff_eq.1 h1
    go_enter Try.func26, Try.ntmps26
    go_wp2
    go_ret
    exact ⟨rfl, rfl⟩
  · obtain rfl := beq_iff_eq.1 h1
    have h3 : (0 : Int) < ((n : Nat) : Int) := by omega
    go_enter Try.func26, Try.ntmps26
    go_wp2
    go_ret
    exact ⟨rfl, rfl⟩

theorem size_any (n : Int) (w : World) (hn : isI n) :
    Calls Try.prog 15 #[.int .i64 n] w fun q w' => q = .returned (.int .i64 ((enc n).length : Nat)) ∧ w' = w := by
  have r := mag_range n hn
  have c := cnt_range (mag n) r.1 (by omega)
  have HR := Lib.hid (fun w => rest_any n w hn)
  have HC := Lib.hid (fun w => count_any (mag n) w r.1 (by omega))
  have e : ((enc n).length : Nat) = if isOne n = true then (1 : Int) else 1 + cnt (mag n) := by
    unfold enc
    split
    · rfl
    · rw [List.length_cons, be_length]; omega
  rw [e]
  clear e r hn
  generalize decide (n < -120) = neg at *
  generalize isOne n = one at *
  generalize cnt (mag n) = c at *
  generalize mag n = m at *
  cases one
  · go_enter Try.func15, Try.ntmps15
    go_wp2_with (fail)
    refine (HR.out _).mono ?_
    rintro q w1 ⟨rfl, rfl⟩
    go_wp2_with (fail)
    refine (HC.out _).mono ?_
    rintro q w1 ⟨rfl, rfl⟩
    go_wp2
    go_ret
    exact ⟨rfl, rfl⟩
  · go_enter Try.func15, Try.ntmps15
    go_wp2_with (fail)
    refine (HR.out _).mono ?_
    rintro q w1 ⟨rfl, rfl⟩
    go_wp2
    go_ret
    exact ⟨rfl, rfl⟩

/-- An integer's encoding in bytes of its own. -/
theorem int_nil (n : Int) (w : World) (hn : isI n) :
    Calls Try.prog 12 #[.slice none 0 0, .int .i64 n] w fun e w' => ∃ A c, e = .returned (.slice A (enc n).length c) ∧ Lies w' .u8 w'.heap.size A (enc n) ∧ Below w.heap.size w w' := by
  refine (int_any none 0 [] n w (fun h => by cases h) (by decide) (fun _ => rfl) hn).mono ?_
  rintro e w' ⟨v, rfl, hown, b⟩
  obtain ⟨A, c, rfl, l⟩ := own_lies hown
  exact ⟨A, c, rfl, l, b⟩

theorem lits (w : World) (Y : List Int) (T : TypeId) : Lies (w.alloc (.cells (Y.map (Value.int .u8)).toArray T)) .u8 (w.heap.size + 1) (some ⟨w.heap.size, 0, none⟩) Y := fun _ => ⟨_, rfl, by simp, fun i hi => by
  rw [add_plain]
  have : (w.alloc (.cells (Y.map (Value.int .u8)).toArray T)).heap[w.heap.size]? = some (.cells (Y.map (Value.int .u8)).toArray T) := by
    show (w.heap.push _)[w.heap.size]? = _
    simp
  simp only [World.cell?]
  rw [this]
  simp [List.getD, hi]⟩

theorem same_lit (A : Option Addr) (c : Nat) (X Y : List Int) (w1 : World) (T : TypeId) (hX : Lies w1 .u8 w1.heap.size A X) (bX : Bytes X) (h : X = Y) :
    Calls Try.prog 13 #[.slice A X.length c, .slice (some ⟨w1.heap.size, 0, none⟩) Y.length Y.length] (w1.alloc (.cells (Y.map (Value.int .u8)).toArray T)) fun e w' => e = .returned (.bool true) ∧ Below w1.heap.size w1 w' := by
  have b1 : Below w1.heap.size w1 (w1.alloc (.cells (Y.map (Value.int .u8)).toArray T)) := (Below.refl _ _).alloc (Nat.le_refl _) _
  refine (same_any A (some ⟨w1.heap.size, 0, none⟩) _ _ X.length c Y.length Y.length X Y _ (hX.below b1) (lits w1 Y T) bX (h ▸ bX) rfl rfl).mono ?_
  rintro e w' ⟨rfl, b⟩
  exact ⟨by rw [decide_eq_true h], bt b1 b⟩

theorem enc_5 : enc 5 = [133] := by decide
theorem enc_120 : enc 120 = [248, 0] := by decide
theorem enc_400 : enc 400 = [249, 1, 24] := by decide
theorem enc_m121 : enc (-121) = [7, 255] := by decide
theorem dec_400 : dec [249, 1, 24] = some (400, 3) := by decide

set_option maxHeartbeats 4000000 in
theorem awake_any (w : World) : Calls Try.prog 10 #[] w fun e w' => e = .returned (.bool true) ∧ Below w.heap.size w w' := by
  have H5 := Lib.hid (fun w => int_nil 5 w ⟨by decide, by decide⟩)
  have H400 := Lib.hid (fun w => int_nil 400 w ⟨by decide, by decide⟩)
  have HM121 := Lib.hid (fun w => int_nil (-121) w ⟨by decide, by decide⟩)
  have HSZ : Hid (∀ w, Calls Try.prog 15 #[.int .i64 400] w fun q w' => q = .returned (.int .i64 3) ∧ w' = w) := Lib.hid fun w => size_any 400 w ⟨by decide, by decide⟩
  have HSRC : Hid (∀ w1, Below w.heap.size w w1 → True) := Lib.hid fun _ _ => trivial
  have b0 : Below w.heap.size w ((w.alloc (.cells #[.int .u8 249, .int .u8 1, .int .u8 24] 5)).alloc (.cells #[.slice (some ⟨w.heap.size, 0, none⟩) 3 3, .int .i64 0] 38)) := ((Below.refl _ _).alloc (Nat.le_refl _) _).alloc (by go_size) _
  have S0 : Hid (Src ((w.alloc (.cells #[.int .u8 249, .int .u8 1, .int .u8 24] 5)).alloc (.cells #[.slice (some ⟨w.heap.size, 0, none⟩) 3 3, .int .i64 0] 38)) (w.heap.size + 1) (.slice (some ⟨w.heap.size, 0, none⟩) 3 3) 0) := Lib.hid (by
    have := src_new (w.alloc (.cells #[.int .u8 249, .int .u8 1, .int .u8 24] 5)) (.slice (some ⟨w.heap.size, 0, none⟩) 3 3) 0
    rwa [show (w.alloc (.cells #[.int .u8 249, .int .u8 1, .int .u8 24] 5)).heap.size = w.heap.size + 1 by go_size] at this)
  have L0 : Hid (Lies ((w.alloc (.cells #[.int .u8 249, .int .u8 1, .int .u8 24] 5)).alloc (.cells #[.slice (some ⟨w.heap.size, 0, none⟩) 3 3, .int .i64 0] 38)) .u8 (w.heap.size + 2) (some ⟨w.heap.size, 0, none⟩) [249, 1, 24]) := Lib.hid (by
    have l := lits w [249, 1, 24] 5
    have hz : (w.alloc (.cells #[.int .u8 249, .int .u8 1, .int .u8 24] 5)).heap.size = w.heap.size + 1 := by go_size
    have b : Below (w.heap.size + 1) (w.alloc (.cells #[.int .u8 249, .int .u8 1, .int .u8 24] 5)) ((w.alloc (.cells #[.int .u8 249, .int .u8 1, .int .u8 24] 5)).alloc (.cells #[.slice (some ⟨w.heap.size, 0, none⟩) 3 3, .int .i64 0] 38)) := (Below.refl _ _).alloc (by omega) _
    exact (l.below b).more (by omega))
  have B0 := Lib.hid b0
  have Z0 : Hid (((w.alloc (.cells #[.int .u8 249, .int .u8 1, .int .u8 24] 5)).alloc (.cells #[.slice (some ⟨w.heap.size, 0, none⟩) 3 3, .int .i64 0] 38)).heap.size = w.heap.size + 2) := Lib.hid (by go_size)
  clear b0
  go_enter Try.func10, Try.ntmps10
  go_wp2_with (fail)
  generalize (w.alloc (.cells #[.int .u8 249, .int .u8 1, .int .u8 24] 5)).alloc (.cells #[.slice (some ⟨w.heap.size, 0, none⟩) 3 3, .int .i64 0] 38) = w0 at *
  rw [← Z0.out] at L0
  refine (H5.out _).mono ?_
  rintro e w1 ⟨A1, c1, rfl, l1, b⟩
  have S1 := Lib.hid (S0.out.below b)
  have L1 := Lib.hid (L0.out.later b)
  have B1 := Lib.hid (bt B0.out b)
  have M1 := Lib.hid l1
  clear b l1
  go_wp2_with (fail)
  refine (same_lit A1 c1 (enc 5) [133] w1 _ M1.out (enc_bytes 5 ⟨by decide, by decide⟩) enc_5).mono ?_
  rintro e w2 ⟨rfl, b⟩
  have S2 := Lib.hid (S1.out.below b)
  have L2 := Lib.hid (L1.out.later b)
  have B2 := Lib.hid (bt B1.out b)
  clear b
  go_wp2_with (fail)
  refine (int_any (some ⟨w2.heap.size, 0, none⟩) 1 [9] 120 _ ((lits w2 [9] 5).more (by simp)) (by decide) (fun h => by cases h) ⟨by decide, by decide⟩).mono ?_
  rintro e w3 ⟨v3, rfl, hown, b⟩
  have b' : Below w2.heap.size w2 w3 := bt ((Below.refl _ _).alloc (Nat.le_refl _) _) b
  obtain ⟨A3, c3, rfl, l3⟩ := own_lies hown
  have S3 := Lib.hid (S2.out.below b')
  have L3 := Lib.hid (L2.out.later b')
  have B3 := Lib.hid (bt B2.out b')
  have M3 := Lib.hid l3
  clear b b' l3 hown
  go_wp2_with (fail)
  refine (same_lit A3 c3 ([9] ++ enc 120) [9, 248, 0] w3 _ M3.out (by rw [enc_120]; intro n hn; simp at hn; omega) (by rw [enc_120]; rfl)).mono ?_
  rintro e w4 ⟨rfl, b⟩
  have S4 := Lib.hid (S3.out.below b)
  have L4 := Lib.hid (L3.out.later b)
  have B4 := Lib.hid (bt B3.out b)
  clear b
  go_wp2_with (fail)
  refine (H400.out _).mono ?_
  rintro e w5 ⟨A5, c5, rfl, l5, b⟩
  have S5 := Lib.hid (S4.out.below b)
  have L5 := Lib.hid (L4.out.later b)
  have B5 := Lib.hid (bt B4.out b)
  have M5 := Lib.hid l5
  clear b l5
  go_wp2_with (fail)
  refine (same_lit A5 c5 (enc 400) [249, 1, 24] w5 _ M5.out (enc_bytes 400 ⟨by decide, by decide⟩) enc_400).mono ?_
  rintro e w6 ⟨rfl, b⟩
  have S6 := Lib.hid (S5.out.below b)
  have L6 := Lib.hid (L5.out.later b)
  have B6 := Lib.hid (bt B5.out b)
  clear b
  go_wp2_with (fail)
  refine (HM121.out _).mono ?_
  rintro e w7 ⟨A7, c7, rfl, l7, b⟩
  have S7 := Lib.hid (S6.out.below b)
  have L7 := Lib.hid (L6.out.later b)
  have B7 := Lib.hid (bt B6.out b)
  have M7 := Lib.hid l7
  clear b l7
  go_wp2_with (fail)
  refine (same_lit A7 c7 (enc (-121)) [7, 255] w7 _ M7.out (enc_bytes (-121) ⟨by decide, by decide⟩) enc_m121).mono ?_
  rintro e w8 ⟨rfl, b⟩
  have S8 := Lib.hid (S7.out.below b)
  have L8 := Lib.hid (L7.out.later b)
  have B8 := Lib.hid (bt B7.out b)
  clear b
  go_wp2_with (fail)
  refine (int_read (w.heap.size + 1) 3 (some ⟨w.heap.size, 0, none⟩) [249, 1, 24] 0 500 w8 S8.out L8.out (by intro n hn; simp at hn; omega) (by decide) (by decide)).mono ?_
  rintro e w9 ⟨v9, rfl, ho, hr⟩
  rw [dec_400] at hr
  rcases hr with ⟨h, _⟩ | ⟨m, s, h, ho', _⟩ | ⟨m, s, A', c', h, _, _, rfl, _, _, S9, _⟩
  · cases h
  · cases h
    omega
  · cases h
    have b9 : Below w.heap.size w w9 := B8.out.trans (ho.below B8.out.size (by omega))
    have HS9 : Hid (Src w9 (w.heap.size + 1) (.slice A' 0 c') 0) := Lib.hid S9
    have B9 := Lib.hid b9
    clear ho S9 b9
    go_wp2_with (fail)
    refine (end_any (w.heap.size + 1) 0 c' A' 0 0 w9 HS9.out (Or.inr (Or.inl ⟨rfl, rfl, rfl⟩))).mono ?_
    rintro e w10 ⟨rfl, rfl⟩
    go_wp2_with (fail)
    refine (HSZ.out _).mono ?_
    rintro e w10 ⟨rfl, rfl⟩
    go_wp2
    go_ret
    exact ⟨rfl, B9.out⟩

end Go.Proofs.Ytcibkgmochikmaa.WireAwake
