/- The law WireInverse. -/
import Derived.Test.YtcibkgmochikmaaWireGood
namespace Go.Proofs.Ytcibkgmochikmaa.WireInv
set_option linter.unusedVariables false
open Go.RowKit Go.Proofs.Ytcibkgmochikmaa.WireBase Go.Proofs.Ytcibkgmochikmaa.WireInt Go.Proofs.Ytcibkgmochikmaa.WireAppend Go.Proofs.Ytcibkgmochikmaa.WireRead Go.Proofs.Ytcibkgmochikmaa.WireParse Go.Proofs.Ytcibkgmochikmaa.WireSrc Go.Proofs.Ytcibkgmochikmaa.WireAwake Go.Proofs.Ytcibkgmochikmaa.WireCode Go.Proofs.Ytcibkgmochikmaa.WireCanon Go.Proofs.Ytcibkgmochikmaa.WireText Go.Proofs.Ytcibkgmochikmaa.WireRd Go.Proofs.Ytcibkgmochikmaa.WireLst Go.Proofs.Ytcibkgmochikmaa.WireMeth Go.Proofs.Ytcibkgmochikmaa.WireBack Go.Proofs.Ytcibkgmochikmaa.WireWrites Go.Proofs.Ytcibkgmochikmaa.WireGood

/-- An integer and whether it is positive. -/
def encIB (n : Int) : List Int := enc n ++ enc (if decide (0 < n) then 1 else 0)

theorem own_slice2 {w : World} {base : Nat} {v : Value} {zs : List Int} (h : Own w base v zs) : ∃ A c, v = .slice A zs.length c ∧ zs.length ≤ c ∧ c ≤ maxLen ∧ Lies w .u8 w.heap.size A zs ∧ (A = none → c = 0) := by
  obtain ⟨A, c, rfl, h1, h2, h3⟩ := own_slice h
  refine ⟨A, c, rfl, h1, h2, h3, ?_⟩
  rintro rfl
  rcases h.2 with ⟨h4, _⟩ | ⟨g, cap, cur, h4, _⟩
  · injection h4
  · cases h4

theorem own_to {w : World} {b b' : Nat} {v : Value} {zs : List Int} (h : Own w b v zs) (hb : b' ≤ b) : Own w b' v zs := own_down h hb

theorem flat_drop {α : Type} (f : α → List Int) (d : α) (l : List α) (k : Nat) (hk : k < l.length) : (l.drop k).flatMap f = f (l.getD k d) ++ (l.drop (k + 1)).flatMap f := by
  rw [List.drop_eq_getElem_cons hk, List.flatMap_cons]
  simp [List.getD, hk]

set_option maxHeartbeats 8000000 in
theorem inv_in (w : World) (A0 A1 A2 : Option Addr) (c0 c1 c2 : Nat) (l : List Int) (t : List ByteArray) (rest G1 G2 G3 R3 : List Int)
    (HL : Hid (Lies w .i64 w.heap.size A0 l)) (HT : Hid (LiesV w w.heap.size A1 (t.map Value.string))) (HR : Hid (Lies w .u8 w.heap.size A2 rest)) (hll : ((l.length : Nat) : Int) ≤ 20) (htl : ((t.length : Nat) : Int) ≤ 20) (hrl : ((rest.length : Nat) : Int) ≤ 100)
    (HI : Hid (∀ n ∈ l, isI n)) (HS : Hid (∀ s ∈ t, s.size ≤ 100))
    (HF : Hid (∀ w1, Below w.heap.size w w1 → Calls Try.prog 11 #[.slice A1 t.length c1, .int .i64 20, .int .i64 100] w1 fun e w' => e = .returned (.bool true) ∧ w' = w1))
    (HG1 : Hid (G1 = (enc ((l.length : Nat) : Int) ++ l.flatMap enc) ++ (enc ((t.length : Nat) : Int) ++ t.flatMap encT))) (HG2 : Hid (G1 ++ l.flatMap encIB = G2)) (HG3 : Hid (G2 ++ t.flatMap encT = G3)) (HR3 : Hid (R3 = t.flatMap encT ++ rest))
    (HGL : Hid (((G3.length : Nat) : Int) ≤ 20000 ∧ G2.length ≤ G3.length ∧ G1.length ≤ G2.length)) (HGB : Hid (Bytes (G3 ++ rest))) (HRB : Hid (Bytes rest)) :
    Calls Try.prog 5 #[.slice A0 l.length c0, .slice A1 t.length c1, .slice A2 rest.length c2] w fun e w' => e = .returned (.bool true) ∧ Below w.heap.size w w' := by
  have hd1 : decide ((20 : Int) < ((l.length : Nat) : Int)) = false := decide_eq_false (by omega)
  have hd2 : decide ((100 : Int) < ((rest.length : Nat) : Int)) = false := decide_eq_false (by omega)
  have W1 : Hid (∀ w1, Below w.heap.size w w1 → Calls Try.prog 20 #[.slice none 0 0, .slice A0 l.length c0] w1 fun e w' => ∃ A c, e = .returned (.slice A (enc ((l.length : Nat) : Int) ++ l.flatMap enc).length c) ∧ Lies w' .u8 w'.heap.size A (enc ((l.length : Nat) : Int) ++ l.flatMap enc) ∧ (A = none → c = 0) ∧ Below w1.heap.size w1 w') := Lib.hid fun w1 b1 => by
    have e1 := (enc_length ((l.length : Nat) : Int) ⟨by omega, by omega⟩).2
    have e3 := flat_length l HI.out
    refine (ints_write none 0 [] A0 c0 l w1 (fun h => by cases h) (HL.out.later b1) (by rw [List.nil_append, List.length_append]; omega) (by omega) (fun _ => rfl) HI.out).mono ?_
    rintro e w' ⟨v, rfl, hown, b⟩
    rw [List.nil_append] at hown
    obtain ⟨A, c, rfl, _, _, q3, q4⟩ := own_slice2 hown
    exact ⟨A, c, rfl, q3, q4, b⟩
  have W2 : Hid (∀ w1 A c, Below w.heap.size w w1 → Lies w1 .u8 w1.heap.size A (enc ((l.length : Nat) : Int) ++ l.flatMap enc) → (A = none → c = 0) → Calls Try.prog 22 #[.slice A (enc ((l.length : Nat) : Int) ++ l.flatMap enc).length c, .slice A1 t.length c1] w1 fun e w' => ∃ A c, e = .returned (.slice A G1.length c) ∧ Own w' w1.heap.size (.slice A G1.length c) G1 ∧ Below w1.heap.size w1 w') := Lib.hid fun w1 A c b1 hl hA => by
    have hg := HGL.out
    have hg1 := HG1.out
    refine (texts_write A c _ A1 c1 t w1 hl (HT.out.later b1) (by rw [← hg1]; omega) (by omega) hA).mono ?_
    rintro e w' ⟨v, rfl, hown, b⟩
    rw [← hg1] at hown
    obtain ⟨A, c, rfl, _⟩ := own_slice2 hown
    exact ⟨A, c, rfl, hown, b⟩
  have W3 : Hid (∀ w1 A c D x base, Own w1 base (.slice A D.length c) D → ((D.length : Nat) : Int) ≤ 20000 → isI x → ∀ w2, Below w1.heap.size w1 w2 → Calls Try.prog 12 #[.slice A D.length c, .int .i64 x] w2 fun e w' => ∃ A' c', e = .returned (.slice A' (D ++ enc x).length c') ∧ Lies w' .u8 w'.heap.size A' (D ++ enc x) ∧ (A' = none → c' = 0) ∧ Below w2.heap.size w2 w') := Lib.hid fun w1 A c D x base hown hlen hx w2 b2 => by
    obtain ⟨A', c', e, _, _, q3, q4⟩ := own_slice2 hown
    cases e
    refine (int_any A c D x w2 (q3.later b2) (by omega) q4 hx).mono ?_
    rintro e w' ⟨v, rfl, hown, b⟩
    obtain ⟨A, c, rfl, _, _, q3, q4⟩ := own_slice2 hown
    exact ⟨A, c, rfl, q3, q4, b⟩
  have W4 : Hid (∀ w1 A c D b, Lies w1 .u8 w1.heap.size A D → ((D.length : Nat) : Int) ≤ 20100 → (A = none → c = 0) → Calls Try.prog 18 #[.slice A D.length c, .bool b] w1 fun e w' => ∃ A' c', e = .returned (.slice A' (D ++ enc (if b then 1 else 0)).length c') ∧ Own w' w1.heap.size (.slice A' (D ++ enc (if b then 1 else 0)).length c') (D ++ enc (if b then 1 else 0)) ∧ Below w1.heap.size w1 w') := Lib.hid fun w1 A c D b hl hlen hA => by
    refine (bool_write A c D b w1 hl (by omega) hA).mono ?_
    rintro e w' ⟨v, rfl, hown, b⟩
    obtain ⟨A, c, rfl, _⟩ := own_slice2 hown
    exact ⟨A, c, rfl, hown, b⟩
  have W5 : Hid (∀ w1 A c D s base, Own w1 base (.slice A D.length c) D → ((D.length : Nat) : Int) ≤ 20000 → s.size ≤ 100 → Calls Try.prog 16 #[.slice A D.length c, .string s] w1 fun e w' => ∃ A' c', e = .returned (.slice A' (D ++ encT s).length c') ∧ Own w' w1.heap.size (.slice A' (D ++ encT s).length c') (D ++ encT s) ∧ Below w1.heap.size w1 w') := Lib.hid fun w1 A c D s base hown hlen hs => by
    obtain ⟨A', c', e, _, _, q3, q4⟩ := own_slice2 hown
    cases e
    refine (text_any A c D s w1 q3 (by omega) q4).mono ?_
    rintro e w' ⟨v, rfl, hown, b⟩
    obtain ⟨A, c, rfl, _⟩ := own_slice2 hown
    exact ⟨A, c, rfl, hown, b⟩
  go_enter Try.func5, Try.ntmps5
  go_wp2_with (fail)
  refine (awake_any _).mono ?_
  rintro e w1 ⟨rfl, b1⟩
  have B1 := Lib.hid b1
  clear b1
  go_wp2_with (fail)
  refine (HF.out _ B1.out).mono ?_
  rintro e w2 ⟨rfl, rfl⟩
  go_wp2_with (fail)
  refine (W1.out _ B1.out).mono ?_
  rintro e w3 ⟨A3, c3, rfl, l3, n3, b3⟩
  have L3 := Lib.hid l3
  have N3 := Lib.hid n3
  have B3 := Lib.hid (bt B1.out b3)
  clear l3 n3 b3
  generalize hE1 : enc ((l.length : Nat) : Int) ++ l.flatMap enc = E1 at *
  go_wp2_with (fail)
  refine (W2.out _ A3 c3 B3.out L3.out N3.out).mono ?_
  rintro e w4 ⟨A4, c4, rfl, hown4, b4⟩
  have O4 := Lib.hid (own_to hown4 B3.out.size)
  have B4 := Lib.hid (bt B3.out b4)
  clear hown4 b4
  go_wp2_with (fail)
  go_loopw [7, 8] (fun s7 s8 wr => ∃ (A : Option Addr) (c k : Nat) (D : List Int), s7 = .slice A D.length c ∧ s8 = .int .i64 k ∧ k ≤ l.length ∧ Hid (Own wr w.heap.size (.slice A D.length c) D) ∧ Hid (Below w.heap.size w wr) ∧ Hid (D ++ (l.drop k).flatMap encIB = G2)) (fun _ s8 _ => l.length - (intOf s8).toNat)
  case atStart => exact ⟨A4, c4, 0, G1, rfl, rfl, Nat.zero_le _, O4, B4, HG2⟩
  case round =>
    obtain ⟨A, c, k, D, rfl, rfl, hk, HO, HB, HE⟩ := hrel
    by_cases hlt : k < l.length
    · obtain ⟨ad, rfl, hcell⟩ := (HL.out.below HB.out).at_ hlt
      have hk' : ((k : Nat) : Int) < ((l.length : Nat) : Int) := by omega
      have HAD : Hid (∀ w1, Below w.heap.size w w1 → w1.cell? (ad.add k) = some (.int .i64 (l.getD k 0))) := Lib.hid fun w1 hb => by
        obtain ⟨ad', e, hc⟩ := (HL.out.below hb).at_ hlt
        cases e
        exact hc
      have HN : Hid (D ++ enc (l.getD k 0) ++ enc (if decide (0 < l.getD k 0) then 1 else 0) ++ (l.drop (k + 1)).flatMap encIB = G2) := Lib.hid (by
        rw [← HE.out, flat_drop encIB 0 l k hlt]
        unfold encIB
        simp only [List.append_assoc])
      have HDL : Hid (((D.length : Nat) : Int) ≤ 20000) := Lib.hid (by
        have h1 := HGL.out
        have h2 := congrArg List.length HE.out
        rw [List.length_append] at h2
        omega)
      have hx := HI.out _ (getD_mem l k hlt)
      have HEL : Hid ((((D ++ enc (l.getD k 0)).length : Nat) : Int) ≤ 20100) := Lib.hid (by
        have := (enc_length _ hx).2
        have := HDL.out
        rw [List.length_append]; omega)
      have J1 := Lib.hid (W3.out wr _ c D _ w.heap.size HO.out HDL.out hx)
      have J2 := Lib.hid (fun w1 A c h1 h2 => W4.out w1 A c (D ++ enc (l.getD k 0)) (decide (0 < l.getD k 0)) h1 HEL.out h2)
      clear hx
      generalize l.getD k 0 = x at *
      generalize enc (if decide (0 < x) then 1 else 0) = eb at *
      generalize D ++ enc x = DX at *
      go_wp2_with (fail)
      go_region_held3 (fun w' => w'.cell? (ad.add k) = some (.int .i64 x))
        ((refine HAD.out _ ?_; first | exact B6.out | exact B5.out | exact HB.out.drew | exact HB.out))
        (first
          | (go_at_call 12; ((with_reducible refine (J1.out _ (Below.refl _ _).drew).mono ?_); rintro e w5 ⟨A5, c5, rfl, l5, n5, b5⟩; have L5 := Lib.hid l5; have N5 := Lib.hid n5; have B5 := Lib.hid (bt HB.out.drew b5); clear l5 n5 b5))
          | (go_at_call 18; ((with_reducible refine (J2.out _ A5 c5 L5.out N5.out).mono ?_); rintro e w6 ⟨A6, c6, rfl, o6, b6⟩; have O6 := Lib.hid (own_to o6 B5.out.size); have B6 := Lib.hid (bt B5.out b6); clear o6 b6)))
      all_goals
        go_wp2
        go_roundw
        case rel => exact ⟨A6, c6, k + 1, _, by first | rfl | rw [List.length_append], by go_num, by omega, O6, B6, HN⟩
        case measure => simp [intOf]; omega
    · obtain rfl : k = l.length := by omega
      have hD : D = G2 := by have := HE.out; simpa using this
      subst hD
      clear hk hlt
      have hk' : ¬ ((l.length : Nat) : Int) < ((l.length : Nat) : Int) := by omega
      go_wp2_with (fail)
      go_loopw [7, 9] (fun s7 s9 wr => ∃ (A : Option Addr) (c k : Nat) (D : List Int), s7 = .slice A D.length c ∧ s9 = .int .i64 k ∧ k ≤ t.length ∧ Hid (Own wr w.heap.size (.slice A D.length c) D) ∧ Hid (Below w.heap.size w wr) ∧ Hid (D ++ (t.drop k).flatMap encT = G3)) (fun _ s9 _ => t.length - (intOf s9).toNat)
      case atStart => exact ⟨A, c, 0, D, rfl, rfl, Nat.zero_le _, HO, HB, HG3⟩
      case round =>
        obtain ⟨A, c, k, D2, rfl, rfl, hk, HO2, HZ, HE2⟩ := hrel
        by_cases hlt : k < t.length
        · obtain ⟨ad, rfl, hcell⟩ := (HT.out.below HZ.out).textAt hlt
          have hk' : ((k : Nat) : Int) < ((t.length : Nat) : Int) := by omega
          have HN : Hid (D2 ++ encT (t.getD k ByteArray.empty) ++ (t.drop (k + 1)).flatMap encT = G3) := Lib.hid (by
            rw [← HE2.out, flat_drop encT ByteArray.empty t k hlt, List.append_assoc])
          have HDL : Hid (((D2.length : Nat) : Int) ≤ 20000) := Lib.hid (by
            have h1 := HGL.out
            have h2 := congrArg List.length HE2.out
            rw [List.length_append] at h2
            omega)
          have J1 := Lib.hid (W5.out wr A c D2 _ w.heap.size HO2.out HDL.out (HS.out _ (getT_mem t k hlt)))
          have HXX : Hid (∃ s : ByteArray, s = t.getD k ByteArray.empty) := Lib.hid ⟨_, rfl⟩
          generalize t.getD k ByteArray.empty = x at *
          generalize D2 ++ encT x = DX at *
          go_wp2_with (fail)
          refine J1.out.mono ?_
          rintro e w5 ⟨A5, c5, rfl, o5, b5⟩
          have O5 := Lib.hid (own_to o5 HZ.out.size)
          have B5 := Lib.hid (bt HZ.out b5)
          clear o5 b5
          go_wp2
          go_roundw
          case rel => exact ⟨A5, c5, k + 1, _, rfl, by go_num, by omega, O5, B5, HN⟩
          case measure => simp [intOf]; omega
        · obtain rfl : k = t.length := by omega
          have hD : D2 = G3 := by have := HE2.out; simpa using this
          subst hD
          clear hk hlt
          have hk' : ¬ ((t.length : Nat) : Int) < ((t.length : Nat) : Int) := by omega
          have HLR := Lib.hid (HR.out.later HZ.out)
          obtain ⟨i0, hi, hz0, hz1, hz2⟩ := info_parts byte_info
          have HGL1 : Hid (((D2.length : Nat) : Int) ≤ 20000) := Lib.hid HGL.out.1
          go_wp2_with (with_reducible refine stop_at (o := ⟨some 64, _, _, _, _, _⟩) ?_)
          unfold Stop
          refine wp_app_ints _ rfl (.tmp 62) (.tmp 63) 22 rfl w.heap.size 5 i0 (.int .u8 0) 1 Try.underlying22 hi hz0 hz1 hz2 rfl (.slice A D2.length c) D2.length (D2.map (Value.int .u8)) rfl HO2.out .u8 wr.heap.size A2 c2 rest rfl HLR.out (by have := HGL1.out; unfold maxLen; omega) (by have := HGL1.out; omega) HZ.out.size ?_
          intro v5 w5 hown5 hg5 _
          obtain ⟨W, hW⟩ : ∃ W, W = D2 ++ rest := ⟨_, rfl⟩
          have hO5 : Own w5 w.heap.size v5 W := by rw [hW]; unfold Own; rw [List.length_append, List.map_append]; exact hown5
          have HB5 : Hid (Below w.heap.size w w5) := Lib.hid (HZ.out.grown hg5 HZ.out.size (fun k hk => (World.ownsRow.lt HO2.out k hk).1))
          clear hown5 hg5
          obtain ⟨A5, c5, rfl, q1, q2, q3, _⟩ := own_slice2 hO5
          have HF5 : Hid (Here (w5.alloc (.cells #[.slice A5 W.length c5, .int .i64 0] 38)) w5.heap.size w5.heap.size W) := Lib.hid ⟨by rw [hW]; exact HGB.out, by simp, A5, c5, q1, by unfold maxLen at q2; omega, src_new _ _ _, q3.below (alloc_below _ _)⟩
          have HB6 := Lib.hid (bt HB5.out (alloc_below w5 (.cells #[.slice A5 W.length c5, .int .i64 0] 38)))
          have HZ5 : Hid (w.heap.size ≤ w5.heap.size) := Lib.hid HB5.out.size
          have HWL : Hid (W.length ≤ 30000) := Lib.hid (by have := HGL1.out; rw [hW, List.length_append]; omega)
          have HWE : Hid (W = (enc ((l.length : Nat) : Int) ++ l.flatMap enc) ++ ((enc ((t.length : Nat) : Int) ++ t.flatMap encT) ++ (l.flatMap encIB ++ R3))) := Lib.hid (by
            rw [hW, ← HG3.out, ← HG2.out, HG1.out, HR3.out, ← hE1]
            simp only [List.append_assoc])
          clear hO5 q1 q2 q3 hW
          go_wp2_with (fail)
          generalize w5.alloc (.cells #[.slice A5 W.length c5, .int .i64 0] 38) = w6 at *
          have M1 := ints_h w5.heap.size w5.heap.size l ((enc ((t.length : Nat) : Int) ++ t.flatMap encT) ++ (l.flatMap encIB ++ R3)) w6 (by have := HF5.out; rw [HWE.out] at this; exact this) (by have := HWL.out; rw [HWE.out] at this; omega) (by omega) HI.out
          have M2 := fun w7 (h : Here w7 w5.heap.size w5.heap.size ((enc ((t.length : Nat) : Int) ++ t.flatMap encT) ++ (l.flatMap encIB ++ R3))) => texts_h w5.heap.size w5.heap.size t (l.flatMap encIB ++ R3) w7 h (by
            have h1 := HWL.out
            have h2 := congrArg List.length HWE.out
            rw [List.length_append] at h2
            omega) (by omega) HS.out
          have HM2 := Lib.hid M2
          clear M2
          refine M1.mono ?_
          rintro r w7 ⟨A7, c7, rfl, l7, ho7, hh7⟩
          have HB7 : Hid (Below w.heap.size w w7) := Lib.hid (HB6.out.trans (ho7.below HB6.out.size HZ5.out))
          have HH7 := Lib.hid hh7
          have HL7 := Lib.hid l7
          clear ho7 hh7 l7 M1
          go_wp2_with (fail)
          refine (same_ints A7 A0 c7 c0 l w7 HL7.out (HL.out.later HB7.out) (by omega)).mono ?_
          rintro r w8 ⟨rfl, b8⟩
          have HB8 := Lib.hid (bt HB7.out b8)
          have HH8 := Lib.hid (here_kept HH7.out b8.block (by obtain ⟨_, _, _, _, _, _, h, _⟩ := HH7.out; exact h.lt) HH7.out.2.1 b8.size)
          clear b8
          go_wp2_with (fail)
          refine (HM2.out w8 HH8.out).mono ?_
          rintro r w9 ⟨A9, c9, rfl, l9, ho9, hh9⟩
          have HB9 : Hid (Below w.heap.size w w9) := Lib.hid (HB8.out.trans (ho9.below HB8.out.size HZ5.out))
          have HH9 := Lib.hid hh9
          have HL9 := Lib.hid l9
          clear ho9 hh9 l9
          go_wp2_with (fail)
          refine (same_texts A9 A1 c9 c1 t w9 HL9.out (HT.out.later HB9.out) (by omega)).mono ?_
          rintro r w10 ⟨rfl, b10⟩
          have HB10 := Lib.hid (bt HB9.out b10)
          have HH10 := Lib.hid (here_kept HH9.out b10.block (by obtain ⟨_, _, _, _, _, _, h, _⟩ := HH9.out; exact h.lt) HH9.out.2.1 b10.size)
          clear b10
          go_wp2_with (fail)
          go_loopw [11] (fun s11 wr => ∃ k : Nat, s11 = .int .i64 k ∧ k ≤ l.length ∧ Hid (Below w.heap.size w wr) ∧ Hid (Here wr w5.heap.size w5.heap.size ((l.drop k).flatMap encIB ++ R3))) (fun s11 _ => l.length - (intOf s11).toNat)
          case atStart => exact ⟨0, rfl, Nat.zero_le _, HB10, HH10⟩
          case round =>
            obtain ⟨k, rfl, hk, HB3, HH3⟩ := hrel
            by_cases hlt : k < l.length
            · obtain ⟨ad, rfl, hcell⟩ := (HL.out.below HB3.out).at_ hlt
              have hk' : ((k : Nat) : Int) < ((l.length : Nat) : Int) := by omega
              have HAD : Hid (∀ w1, Below w.heap.size w w1 → w1.cell? (ad.add k) = some (.int .i64 (l.getD k 0))) := Lib.hid fun w1 hb => by
                obtain ⟨ad', e, hc⟩ := (HL.out.below hb).at_ hlt
                cases e
                exact hc
              have hx := HI.out _ (getD_mem l k hlt)
              have hh : Here wr w5.heap.size w5.heap.size (enc (l.getD k 0) ++ (enc (if decide (0 < l.getD k 0) then 1 else 0) ++ ((l.drop (k + 1)).flatMap encIB ++ R3))) := by
                have := HH3.out
                rw [flat_drop encIB 0 l k hlt] at this
                unfold encIB at this
                simp only [List.append_assoc] at this
                unfold encIB
                simpa only [List.append_assoc] using this
              have HHD : Hid (Here wr.drew w5.heap.size w5.heap.size (enc (l.getD k 0) ++ (enc (if decide (0 < l.getD k 0) then 1 else 0) ++ ((l.drop (k + 1)).flatMap encIB ++ R3)))) := Lib.hid hh
              have J1 := Lib.hid (int_h w5.heap.size w5.heap.size (l.getD k 0) _ wr.drew HHD.out hx)
              have J2 := Lib.hid (fun w1 h => bool_h w5.heap.size w5.heap.size (decide (0 < l.getD k 0)) ((l.drop (k + 1)).flatMap encIB ++ R3) w1 h)
              clear hx hh
              generalize l.getD k 0 = x at *
              generalize enc (if decide (0 < x) then 1 else 0) ++ ((l.drop (k + 1)).flatMap encIB ++ R3) = RX at *
              go_wp2_with (fail)
              go_region_held3 (fun w' => w'.cell? (ad.add k) = some (.int .i64 x))
                ((refine HAD.out _ ?_; first | exact C6.out | exact C5.out | exact HB3.out.drew | exact HB3.out))
                (first
                  | (go_at_call 32; ((with_reducible refine J1.out.mono ?_); rintro e v5 ⟨rfl, o5, h5⟩; have H5 := Lib.hid h5; have C5 := Lib.hid (HB3.out.drew.trans (o5.below HB3.out.drew.size HZ5.out)); clear o5 h5))
                  | (go_at_call 33; ((with_reducible refine (J2.out _ H5.out).mono ?_); rintro e v6 ⟨rfl, o6, h6⟩; have H6 := Lib.hid h6; have C6 := Lib.hid (C5.out.trans (o6.below C5.out.size HZ5.out)); clear o6 h6)))
              all_goals
                go_wp2
                go_roundw
                case rel => exact ⟨k + 1, by go_num, by omega, C6, H6⟩
                case measure => simp [intOf]; omega
            · obtain rfl : k = l.length := by omega
              have HH4 : Hid (Here wr w5.heap.size w5.heap.size ((t.drop 0).flatMap encT ++ rest)) := Lib.hid (by
                have := HH3.out
                rw [List.drop_length, List.flatMap_nil, List.nil_append, HR3.out] at this
                exact this)
              clear hk hlt
              have hk' : ¬ ((l.length : Nat) : Int) < ((l.length : Nat) : Int) := by omega
              go_wp2_with (fail)
              go_loopw [12] (fun s12 wr => ∃ k : Nat, s12 = .int .i64 k ∧ k ≤ t.length ∧ Hid (Below w.heap.size w wr) ∧ Hid (Here wr w5.heap.size w5.heap.size ((t.drop k).flatMap encT ++ rest))) (fun s12 _ => t.length - (intOf s12).toNat)
              case atStart => exact ⟨0, rfl, Nat.zero_le _, HB3, HH4⟩
              case round =>
                obtain ⟨k, rfl, hk, HBT, HHT⟩ := hrel
                by_cases hlt : k < t.length
                · obtain ⟨ad, rfl, hcell⟩ := (HT.out.below HBT.out).textAt hlt
                  have hk' : ((k : Nat) : Int) < ((t.length : Nat) : Int) := by omega
                  have HAD : Hid (∀ w1, Below w.heap.size w w1 → w1.cell? (ad.add k) = some (.string (t.getD k ByteArray.empty))) := Lib.hid fun w1 hb => by
                    obtain ⟨ad', e, hc⟩ := (HT.out.below hb).textAt hlt
                    cases e
                    exact hc
                  have HHD : Hid (Here wr.drew w5.heap.size w5.heap.size (encT (t.getD k ByteArray.empty) ++ ((t.drop (k + 1)).flatMap encT ++ rest))) := Lib.hid (by
                    have := HHT.out
                    rw [flat_drop encT ByteArray.empty t k hlt, List.append_assoc] at this
                    exact this)
                  have J1 := Lib.hid (text_h w5.heap.size w5.heap.size (t.getD k ByteArray.empty) _ wr.drew HHD.out (Nat.le_trans (HS.out _ (getT_mem t k hlt)) (by decide)))
                  generalize t.getD k ByteArray.empty = x at *
                  go_wp2_with (fail)
                  go_region_held3 (fun w' => w'.cell? (ad.add k) = some (.string x))
                    ((refine HAD.out _ ?_; first | exact C5.out | exact HBT.out.drew | exact HBT.out))
                    (first
                      | (go_at_call 34; ((with_reducible refine J1.out.mono ?_); rintro e v5 ⟨rfl, o5, h5⟩; have H5 := Lib.hid h5; have C5 := Lib.hid (HBT.out.drew.trans (o5.below HBT.out.drew.size HZ5.out)); clear o5 h5)))
                  all_goals
                    go_wp2
                    go_roundw
                    case rel => exact ⟨k + 1, by go_num, by omega, C5, H5⟩
                    case measure => simp [intOf]; omega
                · obtain rfl : k = t.length := by omega
                  have hend := HHT.out
                  rw [List.drop_length, List.flatMap_nil, List.nil_append] at hend
                  obtain ⟨hb, hBB, AE, cE, hE1', hE2, SE, LE⟩ := hend
                  have q0 := SE.rest
                  have q1 := SE.err
                  have HLE := Lib.hid LE
                  clear hb hBB hE1' hE2 SE LE hk hlt
                  have hk' : ¬ ((t.length : Nat) : Int) < ((t.length : Nat) : Int) := by omega
                  go_wp2_with (fail)
                  refine (same_any AE A2 _ _ rest.length cE rest.length c2 rest rest wr HLE.out (HR.out.later HBT.out) HRB.out HRB.out rfl rfl).mono ?_
                  rintro r wE ⟨rfl, bE⟩
                  rw [decide_eq_true rfl]
                  have BE := Lib.hid (bt HBT.out bE)
                  clear bE
                  go_wp2
                  go_ret
                  exact ⟨by first | rfl | simp, BE.out⟩

set_option maxHeartbeats 1000000 in
theorem inv_out (w : World) (A0 A1 A2 : Option Addr) (c0 c1 c2 nl nr : Nat) (t : List ByteArray)
    (HF : Hid (∀ w1, Below w.heap.size w w1 → Calls Try.prog 11 #[.slice A1 t.length c1, .int .i64 20, .int .i64 100] w1 fun e w' => e = .returned (.bool (few t 20 100)) ∧ w' = w1))
    (h : (20 : Int) < ((nl : Nat) : Int) ∨ (((nl : Nat) : Int) ≤ 20 ∧ few t 20 100 = false) ∨ (((nl : Nat) : Int) ≤ 20 ∧ few t 20 100 = true ∧ (100 : Int) < ((nr : Nat) : Int))) :
    Calls Try.prog 5 #[.slice A0 nl c0, .slice A1 t.length c1, .slice A2 nr c2] w fun e w' => e = .returned (.bool true) ∧ Below w.heap.size w w' := by
  rcases h with h | ⟨h, h2⟩ | ⟨h, h2, h3⟩
  · go_enter Try.func5, Try.ntmps5
    go_wp2_with (fail)
    refine (awake_any _).mono ?_
    rintro e w1 ⟨rfl, b1⟩
    go_wp2
    go_ret
    exact ⟨rfl, b1⟩
  all_goals
    rw [h2] at HF
    go_enter Try.func5, Try.ntmps5
    go_wp2_with (fail)
    refine (awake_any _).mono ?_
    rintro e w1 ⟨rfl, b1⟩
    have B1 := Lib.hid b1
    clear b1
    go_wp2_with (fail)
    refine (HF.out _ B1.out).mono ?_
    rintro e w2 ⟨rfl, rfl⟩
    go_wp2
    go_ret
    exact ⟨rfl, B1.out⟩

theorem flatIB_length (l : List Int) (h : ∀ n ∈ l, isI n) : (l.flatMap encIB).length ≤ 18 * l.length := by
  induction l with
  | nil => simp
  | cons a l ih =>
    have h1 := (enc_length a (h a (by simp))).2
    have h3 := (enc_length (if decide (0 < a) then 1 else 0) (by split <;> exact ⟨by decide, by decide⟩)).2
    have h2 := ih fun n hn => h n (by simp [hn])
    have hE : (encIB a).length = (enc a).length + (enc (if decide (0 < a) then 1 else 0)).length := by unfold encIB; rw [List.length_append]
    rw [List.flatMap_cons, List.length_append, List.length_cons]
    omega

theorem flatIB_bytes (l : List Int) (h : ∀ n ∈ l, isI n) : Bytes (l.flatMap encIB) := fun n hn => by
  obtain ⟨a, ha, hn⟩ := List.mem_flatMap.1 hn
  exact app_bytes (enc_bytes a (h a ha)) (enc_bytes _ (by split <;> exact ⟨by decide, by decide⟩)) n hn

theorem walk (w : World) (A0 : Option Addr) (c0 : Nat) (l : List Int) (hl : Lies w .i64 w.heap.size A0 l) (wl : ∀ n ∈ l, (Lit.int .i64 n).wf = true) (kl : l.length ≤ c0 ∧ c0 ≤ maxLen) (nl : A0 = none → c0 = 0)
    (A1 : Option Addr) (c1 : Nat) (t : List ByteArray) (ht : LiesV w w.heap.size A1 (t.map Value.string)) (wt : ∀ s ∈ t, s.size ≤ maxLen) (kt : t.length ≤ c1 ∧ c1 ≤ maxLen) (nt : A1 = none → c1 = 0)
    (A2 : Option Addr) (c2 : Nat) (R : List Int) (hR : Lies w .u8 w.heap.size A2 R) (bR : ∀ n ∈ R, (Lit.int .u8 n).wf = true) (kR : R.length ≤ c2 ∧ c2 ≤ maxLen) (nR : A2 = none → c2 = 0) :
    Calls Try.prog 5 #[.slice A0 l.length c0, .slice A1 t.length c1, .slice A2 R.length c2] w fun e w' => e = .returned (.bool true) ∧ Below w.heap.size w w' := by
  have ii := ints_of wl
  have HF : ∀ w1, Below w.heap.size w w1 → Calls Try.prog 11 #[.slice A1 t.length c1, .int .i64 20, .int .i64 100] w1 fun e w' => e = .returned (.bool (few t 20 100)) ∧ w' = w1 := fun w1 b1 => few_any A1 c1 t 20 100 w1 (ht.later b1) (by have := kt.1; have := kt.2; unfold maxLen at this; omega)
  by_cases h1 : l.length ≤ 20
  · cases h3 : few t 20 100
    · exact inv_out w A0 A1 A2 c0 c1 c2 _ _ t (Lib.hid HF) (Or.inr (Or.inl ⟨by omega, h3⟩))
    · by_cases h2 : R.length ≤ 100
      · obtain ⟨f1, f2⟩ := few_spec t h3
        rw [h3] at HF
        have hn : isI ((l.length : Nat) : Int) := ⟨by omega, by omega⟩
        have hnt : isI ((t.length : Nat) : Int) := ⟨by omega, by omega⟩
        have e1 := (enc_length _ hn).2
        have e2 := (enc_length _ hnt).2
        have e3 := flat_length l ii
        have e4 := flatT_length t f1
        have e5 := flatIB_length l ii
        have bR' := bytes_of bR
        refine inv_in w A0 A1 A2 c0 c1 c2 l t R _ _ _ _ (Lib.hid hl) (Lib.hid ht) (Lib.hid hR) (by omega) (by omega) (by omega) (Lib.hid ii) (Lib.hid f1) (Lib.hid HF) (Lib.hid rfl) (Lib.hid rfl) (Lib.hid rfl) (Lib.hid rfl) (Lib.hid ⟨?_, ?_, ?_⟩) (Lib.hid ?_) (Lib.hid bR')
        · simp only [List.length_append]; omega
        · simp only [List.length_append]; omega
        · simp only [List.length_append]; omega
        · exact app_bytes (app_bytes (app_bytes (app_bytes (app_bytes (enc_bytes _ hn) (flat_bytes l ii)) (app_bytes (enc_bytes _ hnt) (flatT_bytes t f1))) (flatIB_bytes l ii)) (flatT_bytes t f1)) bR'
      · exact inv_out w A0 A1 A2 c0 c1 c2 _ _ t (Lib.hid HF) (Or.inr (Or.inr ⟨by omega, h3, by omega⟩))
  · exact inv_out w A0 A1 A2 c0 c1 c2 _ _ t (Lib.hid HF) (Or.inl (by omega))

end Go.Proofs.Ytcibkgmochikmaa.WireInv
