/- The law WireErrors: the walk. -/
import Derived.Test.YtcibkgmochikmaaWireErrs
namespace Go.Proofs.Ytcibkgmochikmaa.WireErrs
set_option linter.unusedVariables false
open Go.RowKit Go.Proofs.Ytcibkgmochikmaa.WireBase Go.Proofs.Ytcibkgmochikmaa.WireInt Go.Proofs.Ytcibkgmochikmaa.WireAppend Go.Proofs.Ytcibkgmochikmaa.WireRead Go.Proofs.Ytcibkgmochikmaa.WireParse Go.Proofs.Ytcibkgmochikmaa.WireSrc Go.Proofs.Ytcibkgmochikmaa.WireAwake Go.Proofs.Ytcibkgmochikmaa.WireCode Go.Proofs.Ytcibkgmochikmaa.WireCanon

set_option maxHeartbeats 4000000 in
theorem errors_in (w : World) (A : Option Addr) (cap : Nat) (Z : List Int) (e' k m lo hi : Int) (hl : Lies w .u8 w.heap.size A Z) (hb : Bytes Z) (hlen : ((Z.length : Nat) : Int) ≤ 40) (he : (e' == 0) = false) :
    Calls Try.prog 8 #[.slice A Z.length cap, .int .i64 e', .agg #[.int .i64 k, .int .i64 m, .int .i64 lo, .int .i64 hi]] w fun e w' => e = .returned (.bool true) ∧ Below w.heap.size w w' := by
  have HL := Lib.hid hl
  have HBY := Lib.hid hb
  clear hl hb
  go_enter Try.func8, Try.ntmps8
  go_wp2_with (fail)
  have W1 : Hid (Below w.heap.size w (w.alloc (.cells #[.int .i64 k, .int .i64 m, .int .i64 lo, .int .i64 hi] 44))) := Lib.hid ((Below.refl _ _).alloc (Nat.le_refl _) _)
  have hcells : ∀ W, Below (w.heap.size + 1) (w.alloc (.cells #[.int .i64 k, .int .i64 m, .int .i64 lo, .int .i64 hi] 44)) W → W.cell? ⟨w.heap.size, 1, none⟩ = some (.int .i64 m) ∧ W.cell? ⟨w.heap.size, 2, none⟩ = some (.int .i64 lo) ∧ W.cell? ⟨w.heap.size, 3, none⟩ = some (.int .i64 hi) := fun W hb => by
    refine ⟨?_, ?_, ?_⟩
    · rw [hb.cell (p := ⟨w.heap.size, 1, none⟩) (by simp)]; go_cell
    · rw [hb.cell (p := ⟨w.heap.size, 2, none⟩) (by simp)]; go_cell
    · rw [hb.cell (p := ⟨w.heap.size, 3, none⟩) (by simp)]; go_cell
  have W2 : Hid ((w.alloc (.cells #[.int .i64 k, .int .i64 m, .int .i64 lo, .int .i64 hi] 44)).heap.size = w.heap.size + 1) := Lib.hid (by simp)
  rw [← W2.out] at hcells
  have HCELL := Lib.hid hcells
  clear hcells
  generalize w.alloc (.cells #[.int .i64 k, .int .i64 m, .int .i64 lo, .int .i64 hi] 44) = w0 at *
  have HL0 := Lib.hid (HL.out.later W1.out)
  refine (awake_any _).mono ?_
  rintro e w1 ⟨rfl, b1⟩
  have B1 := Lib.hid b1
  clear b1
  go_wp2_with (with_reducible refine stop_at (o := ⟨some 20, _, _, _, _, _⟩) ?_)
  unfold Stop
  refine app_copy rfl (.tmp 18) (.tmp 19) rfl w1 A cap Z.length Z rfl rfl rfl (Lib.hid (HL0.out.later B1.out)) (by omega) ?_
  intro A2 c2 w2 C2 L2 B2
  have S0 := Lib.hid (src_new w2 (.slice A2 Z.length c2) e')
  have b3 : Below w2.heap.size w2 (w2.alloc (.cells #[.slice A2 Z.length c2, .int .i64 e'] 38)) := (Below.refl _ _).alloc (Nat.le_refl _) _
  have M0 := Lib.hid (L2.out.later b3)
  have Y0 := Lib.hid (bt (bt B1.out B2.out) b3)
  clear b3
  obtain ⟨q1, q2, q3⟩ := HCELL.out _ Y0.out
  go_wp2_with (fail)
  clear q1 q2 q3
  generalize w2.alloc (.cells #[.slice A2 Z.length c2, .int .i64 e'] 38) = v0 at *
  have D0 : Hid (Dead v0 (.pointer (some ⟨w2.heap.size, 0, none⟩))) := Lib.hid (Or.inr ⟨_, _, _, rfl, S0.out, he⟩)
  refine (src_Int_dead _ lo hi _ D0.out).mono ?_
  rintro r v1 ⟨rfl, b⟩
  have D1 := Lib.hid (D0.out.later b)
  have S1 := Lib.hid (S0.out.below b)
  have M1 := Lib.hid (M0.out.later b)
  have Y1 := Lib.hid (bt Y0.out b)
  clear b
  obtain ⟨q1, q2, q3⟩ := HCELL.out _ Y1.out
  go_wp2_with (fail)
  clear q1 q2 q3
  refine (bool_dead _ _ D1.out).mono ?_
  rintro r v2 ⟨rfl, b⟩
  have D2 := Lib.hid (D1.out.later b)
  have S2 := Lib.hid (S1.out.below b)
  have M2 := Lib.hid (M1.out.later b)
  have Y2 := Lib.hid (bt Y1.out b)
  clear b
  obtain ⟨q1, q2, q3⟩ := HCELL.out _ Y2.out
  go_wp2_with (fail)
  clear q1 q2 q3
  refine (src_Text_dead _ m _ D2.out).mono ?_
  rintro r v3 ⟨rfl, b⟩
  have D3 := Lib.hid (D2.out.later b)
  have S3 := Lib.hid (S2.out.below b)
  have M3 := Lib.hid (M2.out.later b)
  have Y3 := Lib.hid (bt Y2.out b)
  clear b
  obtain ⟨q1, q2, q3⟩ := HCELL.out _ Y3.out
  go_wp2_with (fail)
  clear q1 q2 q3
  refine (src_Ints_dead _ m lo hi _ D3.out).mono ?_
  rintro r v4 ⟨rfl, b⟩
  have D4 := Lib.hid (D3.out.later b)
  have S4 := Lib.hid (S3.out.below b)
  have M4 := Lib.hid (M3.out.later b)
  have Y4 := Lib.hid (bt Y3.out b)
  clear b
  obtain ⟨q1, q2, q3⟩ := HCELL.out _ Y4.out
  go_wp2_with (fail)
  clear q1 q2 q3
  refine (src_Texts_dead _ m hi _ D4.out).mono ?_
  rintro r v5 ⟨rfl, b⟩
  have D5 := Lib.hid (D4.out.later b)
  have S5 := Lib.hid (S4.out.below b)
  have M5 := Lib.hid (M4.out.later b)
  have Y5 := Lib.hid (bt Y4.out b)
  clear b
  go_wp2_with (fail)
  refine (end_any w2.heap.size Z.length c2 A2 e' e' _ S5.out (Or.inl ⟨he, rfl⟩)).mono ?_
  rintro r v6 ⟨rfl, rfl⟩
  have c0 := S5.out.rest
  have c1 := S5.out.err
  go_wp2_with (fail)
  refine (same_any A2 A _ _ Z.length c2 Z.length cap Z Z v6 M5.out (HL0.out.later Y5.out) HBY.out HBY.out rfl rfl).mono ?_
  rintro r v7 ⟨rfl, b⟩
  rw [decide_eq_true rfl]
  have Y7 := Lib.hid (bt Y5.out b)
  have NO : ∀ W : World, Dead W (.pointer none) := fun W => Or.inl rfl
  have HNO := Lib.hid NO
  clear b NO
  obtain ⟨q1, q2, q3⟩ := HCELL.out _ Y7.out
  go_wp2_with (fail)
  clear q1 q2 q3
  refine (src_Int_dead _ lo hi _ (HNO.out _)).mono ?_
  rintro r v8 ⟨rfl, b⟩
  have Y8 := Lib.hid (bt Y7.out b)
  clear b
  obtain ⟨q1, q2, q3⟩ := HCELL.out _ Y8.out
  go_wp2_with (fail)
  clear q1 q2 q3
  refine (bool_dead _ _ (HNO.out _)).mono ?_
  rintro r v9 ⟨rfl, b⟩
  have Y9 := Lib.hid (bt Y8.out b)
  clear b
  obtain ⟨q1, q2, q3⟩ := HCELL.out _ Y9.out
  go_wp2_with (fail)
  clear q1 q2 q3
  refine (src_Text_dead _ m _ (HNO.out _)).mono ?_
  rintro r v10 ⟨rfl, b⟩
  have Y10 := Lib.hid (bt Y9.out b)
  clear b
  obtain ⟨q1, q2, q3⟩ := HCELL.out _ Y10.out
  go_wp2_with (fail)
  clear q1 q2 q3
  refine (src_Ints_dead _ m lo hi _ (HNO.out _)).mono ?_
  rintro r v11 ⟨rfl, b⟩
  have Y11 := Lib.hid (bt Y10.out b)
  clear b
  obtain ⟨q1, q2, q3⟩ := HCELL.out _ Y11.out
  go_wp2_with (fail)
  clear q1 q2 q3
  refine (src_Texts_dead _ m hi _ (HNO.out _)).mono ?_
  rintro r v12 ⟨rfl, b⟩
  have Y12 := Lib.hid (bt Y11.out b)
  clear b
  go_wp2_with (fail)
  refine (end_none _).mono ?_
  rintro r v13 ⟨rfl, rfl⟩
  go_wp2
  go_ret
  exact ⟨rfl, bt W1.out Y12.out⟩

set_option maxHeartbeats 1000000 in
theorem errors_out (w : World) (A : Option Addr) (n cap : Nat) (e' k m lo hi : Int) (h : (40 : Int) < ((n : Nat) : Int) ∨ (((n : Nat) : Int) ≤ 40 ∧ (e' == 0) = true)) :
    Calls Try.prog 8 #[.slice A n cap, .int .i64 e', .agg #[.int .i64 k, .int .i64 m, .int .i64 lo, .int .i64 hi]] w fun e w' => e = .returned (.bool true) ∧ Below w.heap.size w w' := by
  rcases h with h | ⟨h, h2⟩
  all_goals
    go_enter Try.func8, Try.ntmps8
    go_wp2_with (fail)
    refine (awake_any _).mono ?_
    rintro e w1 ⟨rfl, b1⟩
    have B1 : Hid (Below w.heap.size w w1) := Lib.hid (bt (by go_grown) b1)
    clear b1
    go_wp2
    go_ret
    exact ⟨rfl, B1.out⟩

theorem walk (w : World) (A0 : Option Addr) (c0 : Nat) (Z : List Int) (hZ : Lies w .u8 w.heap.size A0 Z) (bZ : ∀ n ∈ Z, (Lit.int .u8 n).wf = true) (kZ : Z.length ≤ c0 ∧ c0 ≤ maxLen) (nZ : A0 = none → c0 = 0)
    (e' : Int) (he : (Lit.int .i64 e').wf = true) (k m lo hi : Int) (hk : (Lit.int .i64 k).wf = true ∧ (Lit.int .i64 m).wf = true ∧ (Lit.int .i64 lo).wf = true ∧ (Lit.int .i64 hi).wf = true) :
    Calls Try.prog 8 #[.slice A0 Z.length c0, .int .i64 e', .agg #[.int .i64 k, .int .i64 m, .int .i64 lo, .int .i64 hi]] w fun e w' => e = .returned (.bool true) ∧ Below w.heap.size w w' := by
  by_cases h : Z.length ≤ 40 ∧ (e' == 0) = false
  · exact errors_in w A0 c0 Z e' k m lo hi hZ (bytes_of bZ) (by omega) h.2
  · refine errors_out w A0 _ c0 e' k m lo hi ?_
    by_cases h2 : Z.length ≤ 40
    · refine Or.inr ⟨by omega, ?_⟩
      cases h3 : (e' == 0)
      · exact absurd ⟨h2, h3⟩ h
      · rfl
    · exact Or.inl (by omega)

theorem walk' (w : World) (A0 : Option Addr) (c0 : Nat) (Z : List Int) (hZ : Lies w .u8 w.heap.size A0 Z) (bZ : ∀ n ∈ Z, (Lit.int .u8 n).wf = true) (kZ : Z.length ≤ c0 ∧ c0 ≤ maxLen) (nZ : A0 = none → c0 = 0)
    (e' : Int) (he : (Lit.int .i64 e').wf = true) (zs : List Int) (hl : zs.length = 4) (hw : ∀ z ∈ zs, (Lit.int .i64 z).wf = true) :
    Calls Try.prog 8 #[.slice A0 Z.length c0, .int .i64 e', .agg (zs.map (Value.int .i64)).toArray] w fun e w' => e = .returned (.bool true) ∧ Below w.heap.size w w' :=
  match zs, hl, hw with
  | [k, m, lo, hi], _, hw => walk w A0 c0 Z hZ bZ kZ nZ e' he k m lo hi ⟨hw k (by simp), hw m (by simp), hw lo (by simp), hw hi (by simp)⟩

end Go.Proofs.Ytcibkgmochikmaa.WireErrs
