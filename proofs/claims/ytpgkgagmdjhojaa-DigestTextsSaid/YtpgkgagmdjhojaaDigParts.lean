/- The law DigestParts. -/
import Derived.Test.YtpgkgagmdjhojaaDigAwake
import Derived.Test.YtpgkgagmdjhojaaLaw
namespace Go.Proofs.Ytpgkgagmdjhojaa.DigParts
set_option linter.unusedVariables false
open Go.RowKit Go.Proofs.Ytpgkgagmdjhojaa.DigMul Go.Proofs.Ytpgkgagmdjhojaa.DigExt Go.Proofs.Ytpgkgagmdjhojaa.DigSeal Go.Proofs.Ytpgkgagmdjhojaa.DigAwake

theorem ext_append (d : Int) (a b : List Int) : ext d (a ++ b) = ext (ext d a) b := by unfold ext; rw [List.foldl_append]

theorem mod_left (D Y E : Int) : (D % 2305843009213693951 * Y + E) % 2305843009213693951 = (D * Y + E) % 2305843009213693951 := by
  rw [Int.add_emod, Int.mul_emod, Int.emod_emod, ← Int.mul_emod, ← Int.add_emod]
theorem mod_right (D Y E : Int) : (D * (Y % 2305843009213693951) + E) % 2305843009213693951 = (D * Y + E) % 2305843009213693951 := by
  rw [Int.mul_comm, mod_left, Int.mul_comm]

/-- The digest behind d is that of d moved on, and that of the bytes. -/
theorem ext_join (l : List Int) : ∀ d, 0 ≤ d → d < 2305843009213693951 → ext d l = (d * pow l.length + ext 0 l) % 2305843009213693951 := by
  induction l with
  | nil =>
    intro d h1 h2
    show d = (d * pow 0 + 0) % 2305843009213693951
    have : pow 0 = 1 := by decide
    rw [this]
    omega
  | cons c l ih =>
    intro d h1 h2
    have e1 := ih ((d * 1000003 + c + 1) % 2305843009213693951) (Int.emod_nonneg _ (by decide)) (Int.emod_lt_of_pos _ (by decide))
    have e2 := ih ((0 * 1000003 + c + 1) % 2305843009213693951) (Int.emod_nonneg _ (by decide)) (Int.emod_lt_of_pos _ (by decide))
    have f1 : ext d (c :: l) = ext ((d * 1000003 + c + 1) % 2305843009213693951) l := rfl
    have f2 : ext 0 (c :: l) = ext ((0 * 1000003 + c + 1) % 2305843009213693951) l := rfl
    rw [f1, f2, e1, e2, List.length_cons]
    unfold pow
    simp only [mod_right, mod_left]
    rw [Int.pow_succ]
    generalize (1000003 : Int) ^ l.length = Y
    have e : (d * 1000003 + c + 1) * Y = d * (Y * 1000003) + (0 * 1000003 + c + 1) * Y := by grind
    rw [e]
    generalize d * (Y * 1000003) = u
    generalize (0 * 1000003 + c + 1) * Y = v
    omega

theorem more_ok (d : Int) (A : Option Addr) (cap : Nat) (zs : List Int) (w : World) (hd : isD d = true) (hl : Lies w .u8 w.heap.size A zs) (hb : Bytes zs) (hlen : zs.length ≤ 9223372036854775807) :
    Calls Try.prog 11 #[.int .i64 d, .slice A zs.length cap] w fun e w' => e = .returned (.tuple #[.int .i64 (ext d zs), .int .i64 0]) ∧ Below w.heap.size w w' := by
  obtain ⟨hd1, hd2⟩ := (isD_iff d).1 hd
  have HV : Hid (∀ w, Calls Try.prog 28 #[.int .i64 d] w fun e w' => e = .returned (.bool true) ∧ w = w') := Lib.hid fun w => by rw [← hd]; exact valid_any d w
  have HE := Lib.hid (extend_any d A cap zs w hd1 hd2 hl hb hlen)
  clear hd hl hb hlen
  go_enter Try.func11, Try.ntmps11
  go_wp2_with (fail)
  refine (HV.out _).mono ?_
  rintro e w' ⟨rfl, rfl⟩
  go_wp2_with (fail)
  refine HE.out.mono ?_
  rintro e w1 ⟨rfl, b1⟩
  go_wp2
  go_ret2
  exact ⟨rfl, b1⟩

theorem isD_ext (zs : List Int) (d : Int) (h : isD d = true) : isD (ext d zs) = true := by
  have h' := (isD_iff d).1 h
  exact (isD_iff _).2 (ext_range zs d h'.1 h'.2)

set_option maxRecDepth 100000 in
set_option maxHeartbeats 4000000 in
theorem parts_in (w : World) (A0 A1 A2 : Option Addr) (c0 c1 c2 : Nat) (X Y Z : List Int) (hX : Lies w .u8 w.heap.size A0 X) (hY : Lies w .u8 w.heap.size A1 Y) (hZ : Lies w .u8 w.heap.size A2 Z)
    (bX : Bytes X) (bY : Bytes Y) (bZ : Bytes Z) (lX : ((X.length : Nat) : Int) ≤ 60) (lY : ((Y.length : Nat) : Int) ≤ 60) (lZ : ((Z.length : Nat) : Int) ≤ 60) :
    Calls Try.prog 6 #[.slice A0 X.length c0, .slice A1 Y.length c1, .slice A2 Z.length c2] w fun e w' => e = .returned (.bool true) ∧ Below w.heap.size w w' := by
  obtain ⟨i0, hi, hz0, hz1, hz2⟩ := info_parts byte_info
  have z0 : isD 0 = true := by decide
  have OX : Hid (∀ w1, Below w.heap.size w w1 → Calls Try.prog 15 #[.slice A0 X.length c0] w1 fun e w' => e = .returned (.int .i64 (ext 0 X)) ∧ Below w1.heap.size w1 w') := Lib.hid fun w1 hb => of_any A0 c0 X w1 (hX.later hb) bX (by omega)
  have OY : Hid (∀ w1, Below w.heap.size w w1 → Calls Try.prog 15 #[.slice A1 Y.length c1] w1 fun e w' => e = .returned (.int .i64 (ext 0 Y)) ∧ Below w1.heap.size w1 w') := Lib.hid fun w1 hb => of_any A1 c1 Y w1 (hY.later hb) bY (by omega)
  have OZ : Hid (∀ w1, Below w.heap.size w w1 → Calls Try.prog 15 #[.slice A2 Z.length c2] w1 fun e w' => e = .returned (.int .i64 (ext 0 Z)) ∧ Below w1.heap.size w1 w') := Lib.hid fun w1 hb => of_any A2 c2 Z w1 (hZ.later hb) bZ (by omega)
  have hxy : ext 0 (X ++ Y) = (ext 0 X * pow Y.length + ext 0 Y) % 2305843009213693951 := by
    rw [ext_append, ext_join Y _ (ext_range X 0 (by decide) (by decide)).1 (ext_range X 0 (by decide) (by decide)).2]
  have hyz : ext 0 (Y ++ Z) = (ext 0 Y * pow Z.length + ext 0 Z) % 2305843009213693951 := by
    rw [ext_append, ext_join Z _ (ext_range Y 0 (by decide) (by decide)).1 (ext_range Y 0 (by decide) (by decide)).2]
  have hall1 : ext 0 (X ++ Y ++ Z) = (ext 0 (X ++ Y) * pow Z.length + ext 0 Z) % 2305843009213693951 := by
    rw [ext_append, ext_join Z _ (ext_range (X ++ Y) 0 (by decide) (by decide)).1 (ext_range (X ++ Y) 0 (by decide) (by decide)).2]
  have hall2 : ext 0 (X ++ Y ++ Z) = (ext 0 X * pow (Y.length + Z.length) + ext 0 (Y ++ Z)) % 2305843009213693951 := by
    rw [List.append_assoc, ext_append, ext_join (Y ++ Z) _ (ext_range X 0 (by decide) (by decide)).1 (ext_range X 0 (by decide) (by decide)).2, List.length_append]
  have hmore : ext (ext 0 (X ++ Y)) Z = ext 0 (X ++ Y ++ Z) := (ext_append 0 (X ++ Y) Z).symm
  have J1 := Lib.hid (fun w => join_ok (ext 0 X) (ext 0 Y) Y.length w (isD_ext X 0 z0) (isD_ext Y 0 z0) (by omega))
  have J2 := Lib.hid (fun w => join_ok (ext 0 Y) (ext 0 Z) Z.length w (isD_ext Y 0 z0) (isD_ext Z 0 z0) (by omega))
  have J3 := Lib.hid (fun w => join_ok (ext 0 (X ++ Y)) (ext 0 Z) Z.length w (isD_ext (X ++ Y) 0 z0) (isD_ext Z 0 z0) (by omega))
  have J4 := Lib.hid (fun w => join_ok (ext 0 X) (ext 0 (Y ++ Z)) (Y.length + Z.length) w (isD_ext X 0 z0) (isD_ext (Y ++ Z) 0 z0) (by omega))
  rw [← hxy] at J1
  rw [← hyz] at J2
  rw [← hall1] at J3
  rw [← hall2, Int.natCast_add] at J4
  have M1 : Hid (∀ w1, Below w.heap.size w w1 → Calls Try.prog 11 #[.int .i64 (ext 0 (X ++ Y)), .slice A2 Z.length c2] w1 fun e w' => e = .returned (.tuple #[.int .i64 (ext 0 (X ++ Y ++ Z)), .int .i64 0]) ∧ Below w1.heap.size w1 w') := Lib.hid fun w1 hb => by
    rw [← hmore]; exact more_ok _ A2 c2 Z w1 (isD_ext (X ++ Y) 0 z0) (hZ.later hb) bZ (by omega)
  have bXY : Bytes (X ++ Y) := fun n hn => (List.mem_append.1 hn).elim (bX n) (bY n)
  have bXYZ : Bytes (X ++ Y ++ Z) := fun n hn => (List.mem_append.1 hn).elim (bXY n) (bZ n)
  have BXY := Lib.hid bXY
  have BXYZ := Lib.hid bXYZ
  have LX := Lib.hid hX
  have LY := Lib.hid hY
  have LZ := Lib.hid hZ
  generalize hdx : ext 0 X = dx at *
  generalize hdy : ext 0 Y = dy at *
  generalize hdz : ext 0 Z = dz at *
  generalize hdxy : ext 0 (X ++ Y) = dxy at *
  generalize hdyz : ext 0 (Y ++ Z) = dyz at *
  generalize hdall : ext 0 (X ++ Y ++ Z) = dall at *
  have EXY := Lib.hid hdxy
  have EALL := Lib.hid hdall
  clear hX hY hZ bX bY bZ hxy hyz hall1 hall2 hmore bXY bXYZ hdx hdy hdz hdxy hdyz hdall z0
  go_enter Try.func6, Try.ntmps6
  go_wp2_with (fail)
  refine (awake_any _).mono ?_
  rintro e w0 ⟨rfl, b0⟩
  have B0 := Lib.hid b0
  have hz := b0.size
  clear b0
  go_wp2_with (first
    | (at_builtin; refine wp_app_ints _ rfl (.tmp 34) (.tmp 35) 22 rfl w0.heap.size 5 i0 (.int .u8 0) 1 Try.underlying22 hi hz0 hz1 hz2 rfl (.slice (some ⟨w0.heap.size, 0, none⟩) 0 0) 0 [] rfl (World.ownsRow_made w0 #[] 0 (Nat.le_refl _) (by decide) rfl) .u8 w.heap.size A0 c0 X rfl (LX.out.below (B0.out.alloc hz _)) (by unfold maxLen; omega) (by omega) (by simp) ?_; intro v1 w1 hown1 hg1 _; have b1 : Below w0.heap.size w0 w1 := ((Below.refl _ _).alloc (Nat.le_refl _) _).grown hg1 (by simp) (by intro k hk; simp [Value.ownBlock] at hk; omega); have H1 := Lib.hid (And.intro hown1 b1); clear hown1 hg1 b1)
    | (at_builtin; refine wp_app_ints _ rfl (.tmp 36) (.tmp 37) 22 rfl w0.heap.size 5 i0 (.int .u8 0) 1 Try.underlying22 hi hz0 hz1 hz2 rfl v1 (0 + X.length) ([] ++ X.map (Value.int .u8)) rfl H1.out.1 .u8 w.heap.size A1 c1 Y rfl (LY.out.below (B0.out.trans (H1.out.2.mono hz))) (by unfold maxLen; omega) (by omega) H1.out.2.size ?_; intro v2 w2 hown2 hg2 _; have b2 : Below w0.heap.size w0 w2 := H1.out.2.grown hg2 H1.out.2.size (fun k hk => (H1.out.1.lt k hk).1); have H2 := Lib.hid (And.intro hown2 b2); clear hown2 hg2 b2)
    | (at_builtin; refine wp_app_ints _ rfl (.tmp 39) (.tmp 40) 22 rfl w0.heap.size 5 i0 (.int .u8 0) 1 Try.underlying22 hi hz0 hz1 hz2 rfl v2 (0 + X.length + Y.length) ([] ++ X.map (Value.int .u8) ++ Y.map (Value.int .u8)) rfl H2.out.1 .u8 w.heap.size A2 c2 Z rfl (LZ.out.below (B0.out.trans (H2.out.2.mono hz))) (by unfold maxLen; omega) (by omega) H2.out.2.size ?_; intro v3 w3 hown3 hg3 hold3; have b3 : Below w0.heap.size w0 w3 := H2.out.2.grown hg3 H2.out.2.size (fun k hk => (H2.out.1.lt k hk).1); have H3 := Lib.hid (And.intro hown3 (And.intro hold3 b3)); clear hown3 hg3 hold3 b3))
  have r3 : w3.ownsRow w0.heap.size 5 1 v3 (X ++ Y ++ Z).length ((X ++ Y ++ Z).map (Value.int .u8)) := by simpa [Nat.add_assoc] using H3.out.1
  have r2 : w3.ownsRow w0.heap.size 5 1 v2 (X ++ Y).length ((X ++ Y).map (Value.int .u8)) := by simpa using H3.out.2.1
  obtain ⟨A3, c3, rfl, l3⟩ := own_lies r3
  obtain ⟨A4, c4, rfl, l4⟩ := own_lies r2
  have HB3 := Lib.hid (H3.out.2.2)
  have lenA : (X ++ Y ++ Z).length ≤ 9223372036854775807 := by simp only [List.length_append]; omega
  have lenB : (X ++ Y).length ≤ 9223372036854775807 := by simp only [List.length_append]; omega
  have OALL := Lib.hid (of_any A3 c3 (X ++ Y ++ Z) w3 l3 BXYZ.out lenA)
  have OXY : Hid (∀ w1, Below w3.heap.size w3 w1 → Calls Try.prog 15 #[.slice A4 (X ++ Y).length c4] w1 fun e w' => e = .returned (.int .i64 (ext 0 (X ++ Y))) ∧ Below w1.heap.size w1 w') := Lib.hid fun w1 hb => of_any A4 c4 (X ++ Y) w1 (l4.later hb) BXY.out lenB
  rw [EALL.out] at OALL
  rw [EXY.out, List.length_append] at OXY
  clear H1 H2 H3 r2 r3 l3 l4 lenA lenB BXY BXYZ LX LY LZ EALL EXY
  refine OALL.out.mono ?_
  rintro e u1 ⟨rfl, k1⟩
  have W3 := Lib.hid (B0.out.trans (HB3.out.mono hz))
  have hz3 : w.heap.size ≤ w3.heap.size := Nat.le_trans hz HB3.out.size
  have S1 := Lib.hid k1
  have T1 := Lib.hid (W3.out.trans (S1.out.mono hz3))
  clear k1
  go_wp2_with (fail)
  refine (OX.out _ T1.out).mono ?_
  rintro e u2 ⟨rfl, k2⟩
  have S2 := Lib.hid (bt S1.out k2)
  have T2 := Lib.hid (bt T1.out k2)
  clear k2
  go_wp2_with (fail)
  refine (OY.out _ T2.out).mono ?_
  rintro e u3 ⟨rfl, k3⟩
  have S3 := Lib.hid (bt S2.out k3)
  have T3 := Lib.hid (bt T2.out k3)
  clear k3
  go_wp2_with (fail)
  refine (J1.out _).mono ?_
  rintro e u4 ⟨rfl, k4⟩
  have S4 := Lib.hid (bt S3.out k4)
  have T4 := Lib.hid (bt T3.out k4)
  clear k4
  go_wp2_with (fail)
  refine (OY.out _ T4.out).mono ?_
  rintro e u5 ⟨rfl, k5⟩
  have S5 := Lib.hid (bt S4.out k5)
  have T5 := Lib.hid (bt T4.out k5)
  clear k5
  go_wp2_with (fail)
  refine (OZ.out _ T5.out).mono ?_
  rintro e u6 ⟨rfl, k6⟩
  have S6 := Lib.hid (bt S5.out k6)
  have T6 := Lib.hid (bt T5.out k6)
  clear k6
  go_wp2_with (fail)
  refine (J2.out _).mono ?_
  rintro e u7 ⟨rfl, k7⟩
  have S7 := Lib.hid (bt S6.out k7)
  have T7 := Lib.hid (bt T6.out k7)
  clear k7
  go_wp2_with (fail)
  refine (OZ.out _ T7.out).mono ?_
  rintro e u8 ⟨rfl, k8⟩
  have S8 := Lib.hid (bt S7.out k8)
  have T8 := Lib.hid (bt T7.out k8)
  clear k8
  go_wp2_with (fail)
  refine (J3.out _).mono ?_
  rintro e u9 ⟨rfl, k9⟩
  have S9 := Lib.hid (bt S8.out k9)
  have T9 := Lib.hid (bt T8.out k9)
  clear k9
  go_wp2_with (fail)
  refine (OX.out _ T9.out).mono ?_
  rintro e y1 ⟨rfl, k1⟩
  have S10 := Lib.hid (bt S9.out k1)
  have T10 := Lib.hid (bt T9.out k1)
  clear k1
  go_wp2_with (fail)
  refine (J4.out _).mono ?_
  rintro e y2 ⟨rfl, k2⟩
  have S11 := Lib.hid (bt S10.out k2)
  have T11 := Lib.hid (bt T10.out k2)
  clear k2
  go_wp2_with (fail)
  refine (OXY.out _ S11.out).mono ?_
  rintro e y3 ⟨rfl, k3⟩
  have S12 := Lib.hid (bt S11.out k3)
  have T12 := Lib.hid (bt T11.out k3)
  clear k3
  go_wp2_with (fail)
  refine (M1.out _ T12.out).mono ?_
  rintro e y4 ⟨rfl, k4⟩
  have S13 := Lib.hid (bt S12.out k4)
  have T13 := Lib.hid (bt T12.out k4)
  clear k4
  go_wp2_with (fail)
  refine (OXY.out _ S13.out).mono ?_
  rintro e y5 ⟨rfl, k5⟩
  have T14 := Lib.hid (bt T13.out k5)
  clear k5
  go_wp2
  go_ret
  exact ⟨by first | rfl | simp, T14.out⟩

set_option maxRecDepth 100000 in
set_option maxHeartbeats 1000000 in
theorem parts_out (w : World) (A0 A1 A2 : Option Addr) (c0 c1 c2 n0 n1 n2 : Nat) (h : (60 : Int) < n0 ∨ ((n0 : Int) ≤ 60 ∧ (60 : Int) < n1) ∨ ((n0 : Int) ≤ 60 ∧ (n1 : Int) ≤ 60 ∧ (60 : Int) < n2)) :
    Calls Try.prog 6 #[.slice A0 n0 c0, .slice A1 n1 c1, .slice A2 n2 c2] w fun e w' => e = .returned (.bool true) ∧ Below w.heap.size w w' := by
  rcases h with h | ⟨h1, h2⟩ | ⟨h1, h2, h3⟩
  all_goals
    go_enter Try.func6, Try.ntmps6
    go_wp2_with (fail)
    refine (awake_any _).mono ?_
    rintro e w1 ⟨rfl, b1⟩
    go_wp2
    go_ret
    exact ⟨rfl, b1⟩

theorem bytes_of {zs : List Int} (h : ∀ n ∈ zs, (Lit.int .u8 n).wf = true) : Bytes zs := fun n hn => by
  have := bounds_u8 (h n hn)
  omega

theorem walk (w : World) (A0 : Option Addr) (c0 : Nat) (X : List Int) (hX : Lies w .u8 w.heap.size A0 X) (bX : ∀ n ∈ X, (Lit.int .u8 n).wf = true) (kX : X.length ≤ c0 ∧ c0 ≤ maxLen) (nX : A0 = none → c0 = 0)
    (A1 : Option Addr) (c1 : Nat) (Y : List Int) (hY : Lies w .u8 w.heap.size A1 Y) (bY : ∀ n ∈ Y, (Lit.int .u8 n).wf = true) (kY : Y.length ≤ c1 ∧ c1 ≤ maxLen) (nY : A1 = none → c1 = 0)
    (A2 : Option Addr) (c2 : Nat) (Z : List Int) (hZ : Lies w .u8 w.heap.size A2 Z) (bZ : ∀ n ∈ Z, (Lit.int .u8 n).wf = true) (kZ : Z.length ≤ c2 ∧ c2 ≤ maxLen) (nZ : A2 = none → c2 = 0) :
    Calls Try.prog 6 #[.slice A0 X.length c0, .slice A1 Y.length c1, .slice A2 Z.length c2] w fun e w' => e = .returned (.bool true) ∧ Below w.heap.size w w' := by
  by_cases h : X.length ≤ 60 ∧ Y.length ≤ 60 ∧ Z.length ≤ 60
  · exact parts_in w A0 A1 A2 c0 c1 c2 X Y Z hX hY hZ (bytes_of bX) (bytes_of bY) (bytes_of bZ) (by omega) (by omega) (by omega)
  · exact parts_out w A0 A1 A2 c0 c1 c2 _ _ _ (by omega)

end Go.Proofs.Ytpgkgagmdjhojaa.DigParts
