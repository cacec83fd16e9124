/- The law WireLimits. -/
import Derived.Test.YtcibkgmochikmaaWireBack
import Derived.Test.YtcibkgmochikmaaWireWrites
namespace Go.Proofs.Ytcibkgmochikmaa.WireLim
set_option linter.unusedVariables false
open Go.RowKit Go.Proofs.Ytcibkgmochikmaa.WireBase Go.Proofs.Ytcibkgmochikmaa.WireInt Go.Proofs.Ytcibkgmochikmaa.WireAppend Go.Proofs.Ytcibkgmochikmaa.WireRead Go.Proofs.Ytcibkgmochikmaa.WireParse Go.Proofs.Ytcibkgmochikmaa.WireSrc Go.Proofs.Ytcibkgmochikmaa.WireAwake Go.Proofs.Ytcibkgmochikmaa.WireCode Go.Proofs.Ytcibkgmochikmaa.WireCanon Go.Proofs.Ytcibkgmochikmaa.WireText Go.Proofs.Ytcibkgmochikmaa.WireRd Go.Proofs.Ytcibkgmochikmaa.WireLst Go.Proofs.Ytcibkgmochikmaa.WireMeth Go.Proofs.Ytcibkgmochikmaa.WireBack Go.Proofs.Ytcibkgmochikmaa.WireWrites

set_option maxHeartbeats 4000000 in
theorem limits_no (w : World) (C : Option Addr) (cc nt : Nat) (cut less : Int) (E : List Int)
    (HF : Hid (∀ w1, Below w.heap.size w w1 → Calls Try.prog 11 #[.slice C nt cc, .int .i64 20, .int .i64 100] w1 fun e w' => e = .returned (.bool true) ∧ w' = w1)) (hnt : (0 : Int) < ((nt : Nat) : Int)) (hnt2 : ((nt : Nat) : Int) ≤ 20)
    (HE : Hid (∀ w1, Below w.heap.size w w1 → Calls Try.prog 22 #[.slice none 0 0, .slice C nt cc] w1 fun e w' => ∃ A1 c1, e = .returned (.slice A1 E.length c1) ∧ E.length ≤ c1 ∧ c1 ≤ maxLen ∧ Lies w' .u8 w'.heap.size A1 E ∧ Below w1.heap.size w1 w')) (HBY : Hid (Bytes E)) (hE : ((E.length : Nat) : Int) ≤ 40000) (hE1 : (1 : Int) ≤ ((E.length : Nat) : Int)) (hcut : isI cut) (hless : isI less)
    (HR1 : Hid (∀ most : Int, most < ((nt : Nat) : Int) → rdL (rdT 100) most E = .error 3)) (HR2 : Hid (∀ p, p < E.length → rdL (rdT 100) 20 (E.take p) = .error 4)) (hl : less ≤ 0) :
    Calls Try.prog 9 #[.slice C nt cc, .int .i64 cut, .int .i64 less] w fun e w' => e = .returned (.bool true) ∧ Below w.heap.size w w' := by
  have hnz : (((nt : Nat) : Int) == 0) = false := beq_eq_false_iff_ne.2 (by omega)
  obtain ⟨cut1, cut2⟩ := hcut
  obtain ⟨less1, less2⟩ := hless
  obtain ⟨k, hk⟩ : ∃ k : Nat, max 0 (min cut (((E.length : Nat) : Int) - 1)) = ((k : Nat) : Int) := ⟨(max 0 (min cut (((E.length : Nat) : Int) - 1))).toNat, by omega⟩
  have hkE : k < E.length := by omega
  have hkE2 : ((k : Nat) : Int) ≤ ((E.length : Nat) : Int) := by omega
  go_enter Try.func9, Try.ntmps9
  go_wp2_with (fail)
  refine (awake_any _).mono ?_
  rintro e w1 ⟨rfl, b1⟩
  have B1 := Lib.hid b1
  clear b1
  go_wp2_with (fail)
  refine (HF.out _ B1.out).mono ?_
  rintro e w2 ⟨rfl, rfl⟩
  go_wp2_with (fail)
  refine (HE.out _ B1.out).mono ?_
  rintro e w3 ⟨Ab, cb, rfl, hc1, hc2, lb, b3⟩
  have LB := Lib.hid lb
  have B3 := Lib.hid (bt B1.out b3)
  have hcb : ((E.length : Nat) : Int) ≤ ((cb : Nat) : Int) := by omega
  have hcb2 : ((cb : Nat) : Int) ≤ 9223372036854775807 := by unfold maxLen at hc2; omega
  clear lb b3 hc1 hc2
  go_wp2_with (with_reducible refine stop_at (o := ⟨some 25, _, _, _, _, _⟩) ?_)
  unfold Stop
  refine app_copy rfl (.tmp 23) (.tmp 24) rfl w3 Ab cb E.length E rfl rfl rfl LB (by omega) ?_
  intro A4 c4 w4 C4 L4 B4
  have HC4 := Lib.hid C4.out
  have F4 : Hid (Full (w4.alloc (.cells #[.slice A4 E.length c4, .int .i64 0] 38)) w4.heap.size w4.heap.size A4 c4 E) := Lib.hid ⟨HBY.out, by simp, C4.out.1, by have := C4.out.2; unfold maxLen at this; omega, src_new _ _ _, L4.out.below (alloc_below _ _)⟩
  have b5 := alloc_below w4 (.cells #[.slice A4 E.length c4, .int .i64 0] 38)
  have B5 := Lib.hid (bt (bt B3.out B4.out) b5)
  have LB5 := Lib.hid (LB.out.later (bt B4.out b5))
  have HZ4 : Hid (w.heap.size ≤ w4.heap.size) := Lib.hid (bt B3.out B4.out).size
  clear b5
  have LB6 := LB5
  have B6 := B5
  obtain ⟨w6, hw6⟩ : ∃ w6, w6 = w4.alloc (.cells #[.slice A4 E.length c4, .int .i64 0] 38) := ⟨_, rfl⟩
  rw [← hw6] at LB6 B6
  have HK := Lib.hid hkE
  have LT : Hid (Lies w6 .u8 w6.heap.size Ab (E.take k)) := Lib.hid fun h0 => by
    obtain ⟨ad, e, hl, hc⟩ := LB6.out (by omega)
    refine ⟨ad, e, hl, fun i hi => ?_⟩
    rw [List.length_take] at hi
    rw [hc i (by omega)]
    simp [List.getD, show i < k by omega]
  have htl : (E.take k).length = k := by rw [List.length_take]; omega
  have HTL := Lib.hid htl
  clear htl hkE
  go_wp2_with (with_reducible refine stop_at (o := ⟨some 60, _, _, _, _, _⟩) ?_)
  unfold Stop
  rw [← hw6]
  refine app_copy rfl (.tmp 51) (.tmp 59) rfl w6 Ab cb k (E.take k) (by rw [show w6.heap.size = w4.heap.size + 1 by rw [hw6]; simp]; rfl) rfl HTL.out LT (by omega) ?_
  intro A7 c7 w7 C7 L7 B7
  have F7 : Hid (Full (w7.alloc (.cells #[.slice A7 (E.take k).length c7, .int .i64 0] 38)) w7.heap.size w7.heap.size A7 c7 (E.take k)) := Lib.hid ⟨fun x hx => HBY.out x (List.mem_of_mem_take hx), by simp, by rw [HTL.out]; exact C7.out.1, by have := C7.out.2; unfold maxLen at this; omega, src_new _ _ _, L7.out.below (alloc_below _ _)⟩
  rw [HTL.out] at F7
  have S7 := Lib.hid F7.out.src
  rw [HTL.out] at S7
  have b8 := alloc_below w7 (.cells #[.slice A7 k c7, .int .i64 0] 38)
  have B8 := Lib.hid (bt (bt B6.out B7.out) b8)
  have HZ7 : Hid (w.heap.size ≤ w7.heap.size) := Lib.hid (bt B6.out B7.out).size
  clear b8
  have q0 := S7.out.rest
  have q1 := S7.out.err
  go_wp2_with (fail)
  clear q0 q1
  generalize w7.alloc (.cells #[.slice A7 k c7, .int .i64 0] 38) = w8 at *
  have HM := texts_m w7.heap.size w7.heap.size c7 A7 (E.take k) 20 100 w8 F7.out (by rw [HTL.out]; omega) (by decide)
  rw [HR2.out k HK.out] at HM
  refine HM.mono ?_
  rintro r w9 ⟨v, rfl, ho, _, rfl, S9⟩
  rw [HTL.out] at S9
  have c0 := S9.rest
  have c1 := S9.err
  have B9 : Hid (Below w.heap.size w w9) := Lib.hid (B8.out.trans (ho.below B8.out.size HZ7.out))
  clear ho S9
  go_wp2
  go_ret
  exact ⟨by first | rfl | simp, B9.out⟩

set_option maxHeartbeats 4000000 in
theorem limits_yes (w : World) (C : Option Addr) (cc nt : Nat) (cut less : Int) (E : List Int)
    (HF : Hid (∀ w1, Below w.heap.size w w1 → Calls Try.prog 11 #[.slice C nt cc, .int .i64 20, .int .i64 100] w1 fun e w' => e = .returned (.bool true) ∧ w' = w1)) (hnt : (0 : Int) < ((nt : Nat) : Int)) (hnt2 : ((nt : Nat) : Int) ≤ 20)
    (HE : Hid (∀ w1, Below w.heap.size w w1 → Calls Try.prog 22 #[.slice none 0 0, .slice C nt cc] w1 fun e w' => ∃ A1 c1, e = .returned (.slice A1 E.length c1) ∧ E.length ≤ c1 ∧ c1 ≤ maxLen ∧ Lies w' .u8 w'.heap.size A1 E ∧ Below w1.heap.size w1 w')) (HBY : Hid (Bytes E)) (hE : ((E.length : Nat) : Int) ≤ 40000) (hE1 : (1 : Int) ≤ ((E.length : Nat) : Int)) (hcut : isI cut) (hless : isI less)
    (HR1 : Hid (∀ most : Int, most < ((nt : Nat) : Int) → rdL (rdT 100) most E = .error 3)) (HR2 : Hid (∀ p, p < E.length → rdL (rdT 100) 20 (E.take p) = .error 4)) (hl : 0 < less) :
    Calls Try.prog 9 #[.slice C nt cc, .int .i64 cut, .int .i64 less] w fun e w' => e = .returned (.bool true) ∧ Below w.heap.size w w' := by
  have hnz : (((nt : Nat) : Int) == 0) = false := beq_eq_false_iff_ne.2 (by omega)
  obtain ⟨cut1, cut2⟩ := hcut
  obtain ⟨less1, less2⟩ := hless
  obtain ⟨k, hk⟩ : ∃ k : Nat, max 0 (min cut (((E.length : Nat) : Int) - 1)) = ((k : Nat) : Int) := ⟨(max 0 (min cut (((E.length : Nat) : Int) - 1))).toNat, by omega⟩
  have hkE : k < E.length := by omega
  have hkE2 : ((k : Nat) : Int) ≤ ((E.length : Nat) : Int) := by omega
  go_enter Try.func9, Try.ntmps9
  go_wp2_with (fail)
  refine (awake_any _).mono ?_
  rintro e w1 ⟨rfl, b1⟩
  have B1 := Lib.hid b1
  clear b1
  go_wp2_with (fail)
  refine (HF.out _ B1.out).mono ?_
  rintro e w2 ⟨rfl, rfl⟩
  go_wp2_with (fail)
  refine (HE.out _ B1.out).mono ?_
  rintro e w3 ⟨Ab, cb, rfl, hc1, hc2, lb, b3⟩
  have LB := Lib.hid lb
  have B3 := Lib.hid (bt B1.out b3)
  have hcb : ((E.length : Nat) : Int) ≤ ((cb : Nat) : Int) := by omega
  have hcb2 : ((cb : Nat) : Int) ≤ 9223372036854775807 := by unfold maxLen at hc2; omega
  clear lb b3 hc1 hc2
  go_wp2_with (with_reducible refine stop_at (o := ⟨some 25, _, _, _, _, _⟩) ?_)
  unfold Stop
  refine app_copy rfl (.tmp 23) (.tmp 24) rfl w3 Ab cb E.length E rfl rfl rfl LB (by omega) ?_
  intro A4 c4 w4 C4 L4 B4
  have HC4 := Lib.hid C4.out
  have F4 : Hid (Full (w4.alloc (.cells #[.slice A4 E.length c4, .int .i64 0] 38)) w4.heap.size w4.heap.size A4 c4 E) := Lib.hid ⟨HBY.out, by simp, C4.out.1, by have := C4.out.2; unfold maxLen at this; omega, src_new _ _ _, L4.out.below (alloc_below _ _)⟩
  have b5 := alloc_below w4 (.cells #[.slice A4 E.length c4, .int .i64 0] 38)
  have B5 := Lib.hid (bt (bt B3.out B4.out) b5)
  have LB5 := Lib.hid (LB.out.later (bt B4.out b5))
  have HZ4 : Hid (w.heap.size ≤ w4.heap.size) := Lib.hid (bt B3.out B4.out).size
  clear b5
  go_wp2_with (fail)
  generalize w4.alloc (.cells #[.slice A4 E.length c4, .int .i64 0] 38) = w5 at *
  have hm1 : max (((nt : Nat) : Int) - less) (-1) < ((nt : Nat) : Int) := by omega
  generalize max (((nt : Nat) : Int) - less) (-1) = most at *
  have HM := texts_m w4.heap.size w4.heap.size c4 A4 E most 100 w5 F4.out (by omega) (by omega)
  rw [HR1.out most hm1] at HM
  refine HM.mono ?_
  rintro r w6 ⟨v, rfl, ho, _, rfl, S6⟩
  have c0 := S6.rest
  have c1 := S6.err
  have LB6 : Hid (Lies w6 .u8 w6.heap.size Ab E) := Lib.hid (Lies.only LB5.out F4.out.src (not_byte _ _ _) ho)
  have LA6 : Hid (Lies w6 .u8 w6.heap.size A4 E) := Lib.hid (Lies.only (F4.out.lies.more F4.out.bound) F4.out.src (not_byte _ _ _) ho)
  have B6 : Hid (Below w.heap.size w w6) := Lib.hid (B5.out.trans (ho.below B5.out.size HZ4.out))
  clear ho S6
  go_wp2_with (fail)
  refine (same_any A4 Ab _ _ E.length c4 E.length cb E E w6 LA6.out LB6.out HBY.out HBY.out rfl rfl).mono ?_
  rintro r w6b ⟨rfl, b⟩
  rw [decide_eq_true rfl]
  have LB6 := Lib.hid (LB6.out.later b)
  have B6 := Lib.hid (bt B6.out b)
  clear b c0 c1
  generalize hw6 : w6b = w6 at *
  have HK := Lib.hid hkE
  have LT : Hid (Lies w6 .u8 w6.heap.size Ab (E.take k)) := Lib.hid fun h0 => by
    obtain ⟨ad, e, hl, hc⟩ := LB6.out (by omega)
    refine ⟨ad, e, hl, fun i hi => ?_⟩
    rw [List.length_take] at hi
    rw [hc i (by omega)]
    simp [List.getD, show i < k by omega]
  have htl : (E.take k).length = k := by rw [List.length_take]; omega
  have HTL := Lib.hid htl
  clear htl hkE
  go_wp2_with (with_reducible refine stop_at (o := ⟨some 60, _, _, _, _, _⟩) ?_)
  unfold Stop
  refine app_copy rfl (.tmp 51) (.tmp 59) rfl w6 Ab cb k (E.take k) rfl rfl HTL.out LT (by omega) ?_
  intro A7 c7 w7 C7 L7 B7
  have F7 : Hid (Full (w7.alloc (.cells #[.slice A7 (E.take k).length c7, .int .i64 0] 38)) w7.heap.size w7.heap.size A7 c7 (E.take k)) := Lib.hid ⟨fun x hx => HBY.out x (List.mem_of_mem_take hx), by simp, by rw [HTL.out]; exact C7.out.1, by have := C7.out.2; unfold maxLen at this; omega, src_new _ _ _, L7.out.below (alloc_below _ _)⟩
  rw [HTL.out] at F7
  have S7 := Lib.hid F7.out.src
  rw [HTL.out] at S7
  have b8 := alloc_below w7 (.cells #[.slice A7 k c7, .int .i64 0] 38)
  have B8 := Lib.hid (bt (bt B6.out B7.out) b8)
  have HZ7 : Hid (w.heap.size ≤ w7.heap.size) := Lib.hid (bt B6.out B7.out).size
  clear b8
  have q0 := S7.out.rest
  have q1 := S7.out.err
  go_wp2_with (fail)
  clear q0 q1
  generalize w7.alloc (.cells #[.slice A7 k c7, .int .i64 0] 38) = w8 at *
  have HM := texts_m w7.heap.size w7.heap.size c7 A7 (E.take k) 20 100 w8 F7.out (by rw [HTL.out]; omega) (by decide)
  rw [HR2.out k HK.out] at HM
  refine HM.mono ?_
  rintro r w9 ⟨v, rfl, ho, _, rfl, S9⟩
  rw [HTL.out] at S9
  have c0 := S9.rest
  have c1 := S9.err
  have B9 : Hid (Below w.heap.size w w9) := Lib.hid (B8.out.trans (ho.below B8.out.size HZ7.out))
  clear ho S9
  go_wp2
  go_ret
  exact ⟨by first | rfl | simp, B9.out⟩

set_option maxHeartbeats 1000000 in
theorem limits_out (w : World) (C : Option Addr) (cc nt : Nat) (cut less : Int) (f : Bool)
    (HF : Hid (∀ w1, Below w.heap.size w w1 → Calls Try.prog 11 #[.slice C nt cc, .int .i64 20, .int .i64 100] w1 fun e w' => e = .returned (.bool f) ∧ w' = w1)) (h : f = false ∨ (f = true ∧ nt = 0)) :
    Calls Try.prog 9 #[.slice C nt cc, .int .i64 cut, .int .i64 less] w fun e w' => e = .returned (.bool true) ∧ Below w.heap.size w w' := by
  rcases h with rfl | ⟨rfl, rfl⟩
  all_goals
    go_enter Try.func9, Try.ntmps9
    go_wp2_with (fail)
    refine (awake_any _).mono ?_
    rintro e w1 ⟨rfl, b1⟩
    have B1 := Lib.hid b1
    clear b1
    go_wp2_with (fail)
    refine (HF.out _ B1.out).mono ?_
    rintro e w2 ⟨rfl, rfl⟩
    go_wp2
    go_ret
    exact ⟨rfl, B1.out⟩

theorem walk (w : World) (A2 : Option Addr) (c2 : Nat) (t : List ByteArray) (ht : LiesV w w.heap.size A2 (t.map Value.string)) (wt : ∀ s ∈ t, s.size ≤ maxLen) (kt : t.length ≤ c2 ∧ c2 ≤ maxLen) (nt : A2 = none → c2 = 0)
    (cut : Int) (hcut : (Lit.int .i64 cut).wf = true) (less : Int) (hless : (Lit.int .i64 less).wf = true) :
    Calls Try.prog 9 #[.slice A2 t.length c2, .int .i64 cut, .int .i64 less] w fun e w' => e = .returned (.bool true) ∧ Below w.heap.size w w' := by
  have ii : ∀ n, (Lit.int .i64 n).wf = true → isI n := fun n hn => by
    have : -9223372036854775808 ≤ n ∧ n ≤ 9223372036854775807 := by simpa [Lit.wf, IntKind.min, IntKind.max, IntKind.signed, IntKind.bits] using hn
    exact this
  have HF : ∀ w1, Below w.heap.size w w1 → Calls Try.prog 11 #[.slice A2 t.length c2, .int .i64 20, .int .i64 100] w1 fun e w' => e = .returned (.bool (few t 20 100)) ∧ w' = w1 := fun w1 b1 => few_any A2 c2 t 20 100 w1 (ht.later b1) (by have := kt.1; have := kt.2; unfold maxLen at this; omega)
  cases h3 : few t 20 100
  · rw [h3] at HF
    exact limits_out w A2 c2 _ cut less _ (Lib.hid HF) (Or.inl rfl)
  · rw [h3] at HF
    by_cases h0 : t.length = 0
    · exact limits_out w A2 c2 _ cut less _ (Lib.hid HF) (Or.inr ⟨rfl, h0⟩)
    · obtain ⟨f1, f2⟩ := few_spec t h3
      have hnt : isI ((t.length : Nat) : Int) := ⟨by omega, by omega⟩
      have e2 := enc_length _ hnt
      have e4 := flatT_length t f1
      have hlT : ((([] ++ (enc ((t.length : Nat) : Int) ++ t.flatMap encT)).length : Nat) : Int) ≤ 40000 := by rw [List.nil_append, List.length_append]; omega
      have hE1 : (1 : Int) ≤ (((enc ((t.length : Nat) : Int) ++ t.flatMap encT).length : Nat) : Int) := by rw [List.length_append]; omega
      have HE : ∀ w1, Below w.heap.size w w1 → Calls Try.prog 22 #[.slice none 0 0, .slice A2 t.length c2] w1 fun e w' => ∃ A1 c1, e = .returned (.slice A1 (enc ((t.length : Nat) : Int) ++ t.flatMap encT).length c1) ∧ (enc ((t.length : Nat) : Int) ++ t.flatMap encT).length ≤ c1 ∧ c1 ≤ maxLen ∧ Lies w' .u8 w'.heap.size A1 (enc ((t.length : Nat) : Int) ++ t.flatMap encT) ∧ Below w1.heap.size w1 w' := fun w1 b1 => by
        refine (texts_write none 0 [] A2 c2 t w1 (fun h => by cases h) (ht.later b1) hlT (by omega) (fun _ => rfl)).mono ?_
        rintro e w' ⟨v, rfl, hown, b⟩
        rw [List.nil_append] at hown
        obtain ⟨A1, c1, rfl, q1, q2, q3⟩ := own_slice hown
        exact ⟨A1, c1, rfl, q1, q2, q3, b⟩
      have BY : Bytes (enc ((t.length : Nat) : Int) ++ t.flatMap encT) := app_bytes (enc_bytes _ hnt) (flatT_bytes t f1)
      have R1 : ∀ most : Int, most < ((t.length : Nat) : Int) → rdL (rdT 100) most (enc ((t.length : Nat) : Int) ++ t.flatMap encT) = .error 3 := fun most hm => by
        unfold rdL
        rw [rdI_out 0 most 3 _ hnt _ (by omega)]
      have R2 : ∀ p, p < (enc ((t.length : Nat) : Int) ++ t.flatMap encT).length → rdL (rdT 100) 20 ((enc ((t.length : Nat) : Int) ++ t.flatMap encT).take p) = .error 4 := fun p hp =>
        rdL_cut 100 20 t (fun s hs => ⟨by have := f1 s hs; omega, by have := f1 s hs; omega⟩) (by omega) (by omega) p hp
      rw [List.nil_append] at hlT
      by_cases hl : less ≤ 0
      · exact limits_no w A2 c2 _ cut less _ (Lib.hid HF) (by omega) (by omega) (Lib.hid HE) (Lib.hid BY) hlT hE1 (ii _ hcut) (ii _ hless) (Lib.hid R1) (Lib.hid R2) hl
      · exact limits_yes w A2 c2 _ cut less _ (Lib.hid HF) (by omega) (by omega) (Lib.hid HE) (Lib.hid BY) hlT hE1 (ii _ hcut) (ii _ hless) (Lib.hid R1) (Lib.hid R2) (by omega)

end Go.Proofs.Ytcibkgmochikmaa.WireLim
