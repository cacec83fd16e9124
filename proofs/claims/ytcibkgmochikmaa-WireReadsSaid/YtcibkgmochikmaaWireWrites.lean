/- The law WireWrites. -/
import Derived.Test.YtcibkgmochikmaaWireRef
namespace Go.Proofs.Ytcibkgmochikmaa.WireWrites
set_option linter.unusedVariables false
open Go.RowKit Go.Proofs.Ytcibkgmochikmaa.WireBase Go.Proofs.Ytcibkgmochikmaa.WireInt Go.Proofs.Ytcibkgmochikmaa.WireAppend Go.Proofs.Ytcibkgmochikmaa.WireAwake Go.Proofs.Ytcibkgmochikmaa.WireCanon Go.Proofs.Ytcibkgmochikmaa.WireText Go.Proofs.Ytcibkgmochikmaa.WireRef

/-- At most n texts of at most m bytes. -/
def few (l : List ByteArray) (n m : Int) : Bool := l.all (fun s => decide ((s.size : Int) ≤ m)) && decide ((l.length : Int) ≤ n)

set_option maxHeartbeats 1000000 in
theorem few_any (B : Option Addr) (cb : Nat) (l : List ByteArray) (n m : Int) (w : World) (hm : LiesV w w.heap.size B (l.map Value.string)) (hll : ((l.length : Nat) : Int) ≤ 9223372036854775807) :
    Calls Try.prog 11 #[.slice B l.length cb, .int .i64 n, .int .i64 m] w fun e w' => e = .returned (.bool (few l n m)) ∧ w' = w := by
  have HM := Lib.hid hm
  have H0 : Hid (few l n m = ((l.drop 0).all (fun s => decide ((s.size : Int) ≤ m)) && decide ((l.length : Int) ≤ n))) := Lib.hid rfl
  have HSTEP : Hid (∀ k, k < l.length → (l.drop k).all (fun s => decide ((s.size : Int) ≤ m)) = (decide (((l.getD k ByteArray.empty).size : Int) ≤ m) && (l.drop (k + 1)).all (fun s => decide ((s.size : Int) ≤ m)))) := Lib.hid fun k hk => by
    rw [List.drop_eq_getElem_cons hk, List.all_cons]
    simp [List.getD, hk]
  have HEND : Hid ((l.drop l.length).all (fun s => decide ((s.size : Int) ≤ m)) = true) := Lib.hid (by simp)
  generalize few l n m = r at *
  clear hm
  go_enter Try.func11, Try.ntmps11
  go_wp2_with (fail)
  go_loopw [7] (fun s7 wr => ∃ k : Nat, s7 = .int .i64 k ∧ k ≤ l.length ∧ Hid (r = ((l.drop k).all (fun s => decide ((s.size : Int) ≤ m)) && decide ((l.length : Int) ≤ n))) ∧ wr = w) (fun s7 _ => l.length - (intOf s7).toNat)
  case atStart => exact ⟨0, rfl, Nat.zero_le _, H0, rfl⟩
  case round =>
    obtain ⟨k, rfl, hk, HR, rfl⟩ := hrel
    by_cases hlt : k < l.length
    · obtain ⟨ad, rfl, hcell⟩ := HM.out.textAt hlt
      have hk' : ((k : Nat) : Int) < ((l.length : Nat) : Int) := by omega
      have hst := HSTEP.out k hlt
      generalize l.getD k ByteArray.empty = s at *
      by_cases hs : ((s.size : Nat) : Int) ≤ m
      · have HN : Hid (r = ((l.drop (k + 1)).all (fun s => decide ((s.size : Int) ≤ m)) && decide ((l.length : Int) ≤ n))) := Lib.hid (by rw [HR.out, hst, decide_eq_true hs, Bool.true_and])
        clear hst
        go_wp2
        go_roundw
        case rel => exact ⟨k + 1, by go_num, by omega, HN, trivial⟩
        case measure => simp [intOf]; omega
      · have hr : r = false := by rw [HR.out, hst, decide_eq_false hs]; rfl
        have hs2 : m < ((s.size : Nat) : Int) := by omega
        subst hr
        clear hst hs
        go_wp2
        go_ret
        exact ⟨rfl, rfl⟩
    · obtain rfl : k = l.length := by omega
      have hr : decide (((l.length : Nat) : Int) ≤ n) = r := by rw [HR.out, HEND.out, Bool.true_and]
      clear hk hlt
      go_wp2
      go_ret
      exact ⟨rfl, rfl⟩

/-- A call that returns a row of bytes, wherever it stands later than w. -/
abbrev Rows1 (f : FuncId) (args : Array Value) (w : World) (U : List Int) : Prop := ∀ w1, Below w.heap.size w w1 → Calls Try.prog f args w1 fun e w' => ∃ A1 c1, e = .returned (.slice A1 U.length c1) ∧ Lies w' .u8 w'.heap.size A1 U ∧ Below w1.heap.size w1 w'

theorem rows1 {f : FuncId} {args : Array Value} {w : World} {U : List Int} (h : ∀ w1, Below w.heap.size w w1 → Calls Try.prog f args w1 fun e w' => ∃ v, e = .returned v ∧ Own w' w1.heap.size v U ∧ Below w1.heap.size w1 w') : Rows1 f args w U := fun w1 b1 => by
  refine (h w1 b1).mono ?_
  rintro e w' ⟨v, rfl, hown, b⟩
  obtain ⟨A1, c1, rfl, l1⟩ := own_lies hown
  exact ⟨A1, c1, rfl, l1, b⟩

theorem sames (U : List Int) (hU : Bytes U) : ∀ w1 A1 A2 c1 c2, Lies w1 .u8 w1.heap.size A1 U → Lies w1 .u8 w1.heap.size A2 U → Calls Try.prog 13 #[.slice A1 U.length c1, .slice A2 U.length c2] w1 fun e w' => e = .returned (.bool true) ∧ Below w1.heap.size w1 w' := fun w1 A1 A2 c1 c2 h1 h2 => by
  refine (same_any A1 A2 _ _ _ c1 _ c2 U U w1 h1 h2 hU hU rfl rfl).mono ?_
  rintro e w' ⟨rfl, b⟩
  rw [decide_eq_true rfl]
  exact ⟨rfl, b⟩

set_option maxHeartbeats 4000000 in
theorem writes_in (w : World) (A B C : Option Addr) (ca cb cc nz : Nat) (l : List Int) (t : List ByteArray) (fl : Bool) (UB UI UT : List Int) (UN : Nat → List Int) (UX : Nat → List Int) (SZ : Nat → Int)
    (hz : ((nz : Nat) : Int) ≤ 100) (hll : ((l.length : Nat) : Int) ≤ 20) (HF : Hid (∀ w1, Below w.heap.size w w1 → Calls Try.prog 11 #[.slice C t.length cc, .int .i64 20, .int .i64 100] w1 fun e w' => e = .returned (.bool true) ∧ w' = w1))
    (HL : Hid (Lies w .i64 w.heap.size B l)) (HT : Hid (LiesV w w.heap.size C (t.map Value.string))) (htl : ((t.length : Nat) : Int) ≤ 20)
    (HI1 : Hid (∀ k, k < l.length → Rows1 12 #[.slice A nz ca, .int .i64 (l.getD k 0)] w (UN k))) (HI2 : Hid (∀ k, k < l.length → Rows1 14 #[.slice A nz ca, .int .i64 (l.getD k 0)] w (UN k)))
    (HSZ : Hid (∀ k, k < l.length → ∀ w, Calls Try.prog 15 #[.int .i64 (l.getD k 0)] w fun q w' => q = .returned (.int .i64 (SZ k)) ∧ w' = w)) (HSZ2 : Hid (∀ k, k < l.length → (((UN k).length : Nat) : Int) - nz = SZ k ∧ SZ k ≤ 9 ∧ (((UN k).length : Nat) : Int) ≤ 1000))
    (HX1 : Hid (∀ k, k < t.length → Rows1 16 #[.slice A nz ca, .string (t.getD k ByteArray.empty)] w (UX k))) (HX2 : Hid (∀ k, k < t.length → Rows1 17 #[.slice A nz ca, .string (t.getD k ByteArray.empty)] w (UX k)))
    (hfl : decide ((3 : Int) < ((l.length : Nat) : Int)) = fl) (HB1 : Hid (Rows1 18 #[.slice A nz ca, .bool fl] w UB)) (HB2 : Hid (Rows1 19 #[.slice A nz ca, .bool fl] w UB))
    (HN1 : Hid (Rows1 20 #[.slice A nz ca, .slice B l.length cb] w UI)) (HN2 : Hid (Rows1 21 #[.slice A nz ca, .slice B l.length cb] w UI))
    (HM1 : Hid (Rows1 22 #[.slice A nz ca, .slice C t.length cc] w UT)) (HM2 : Hid (Rows1 23 #[.slice A nz ca, .slice C t.length cc] w UT))
    (BN : Hid (∀ k, k < l.length → Bytes (UN k))) (BX : Hid (∀ k, k < t.length → Bytes (UX k))) (BB : Hid (Bytes UB)) (BI : Hid (Bytes UI)) (BT : Hid (Bytes UT)) :
    Calls Try.prog 3 #[.slice A nz ca, .slice B l.length cb, .slice C t.length cc] w fun e w' => e = .returned (.bool true) ∧ Below w.heap.size w w' := by
  have hd1 : decide ((100 : Int) < ((nz : Nat) : Int)) = false := decide_eq_false (by omega)
  have hd2 : decide ((20 : Int) < ((l.length : Nat) : Int)) = false := decide_eq_false (by omega)
  go_enter Try.func3, Try.ntmps3
  go_wp2_with (fail)
  refine (awake_any _).mono ?_
  rintro e w1 ⟨rfl, b1⟩
  have B1 := Lib.hid b1
  clear b1
  go_wp2_with (fail)
  refine (HF.out _ B1.out).mono ?_
  rintro e w2 ⟨rfl, rfl⟩
  go_wp2_with (fail)
  go_loopw [7, 8] (fun s7 s8 wr => ∃ k : Nat, s7 = .int .i64 k ∧ k ≤ l.length ∧ Hid (Below w.heap.size w wr)) (fun s7 _ _ => l.length - (intOf s7).toNat)
  case atStart => exact ⟨0, rfl, Nat.zero_le _, B1⟩
  case round =>
    obtain ⟨k, rfl, hk, HB⟩ := hrel
    by_cases hlt : k < l.length
    · obtain ⟨ad, rfl, hcell⟩ := (HL.out.below HB.out).at_ hlt
      have hk' : ((k : Nat) : Int) < ((l.length : Nat) : Int) := by omega
      have HAD : Hid (∀ w1, Below w.heap.size w w1 → w1.cell? (ad.add k) = some (.int .i64 (l.getD k 0))) := Lib.hid fun w1 hb => by
        obtain ⟨ad', e, hc⟩ := (HL.out.below hb).at_ hlt
        cases e
        exact hc
      have J1 := Lib.hid (HI1.out k hlt)
      have J2 := Lib.hid (HI2.out k hlt)
      have JS := Lib.hid (HSZ.out k hlt)
      have hz2 := HSZ2.out k hlt
      have JM := Lib.hid (sames (UN k) (BN.out k hlt))
      obtain ⟨hz3, hz4, hz5⟩ := hz2
      generalize UN k = U at *
      generalize l.getD k 0 = x at *
      generalize SZ k = sz at *
      go_wp2_with (fail)
      refine (J1.out _ HB.out).mono ?_
      rintro e w3 ⟨A3, c3, rfl, l3, b3⟩
      have L3 := Lib.hid l3
      have B3 := Lib.hid (bt HB.out b3)
      clear b3 l3
      have q3 := HAD.out _ B3.out
      go_wp2_with (fail)
      refine (J2.out _ B3.out).mono ?_
      rintro e w4 ⟨A4, c4, rfl, l4, b4⟩
      have L3 := Lib.hid (L3.out.later b4)
      have L4 := Lib.hid l4
      have B4 := Lib.hid (bt B3.out b4)
      clear b4 l4 q3
      have q4 := HAD.out _ B4.out
      go_wp2_with (fail)
      refine (JM.out _ A3 A4 c3 c4 L3.out L4.out).mono ?_
      rintro e w5 ⟨rfl, b5⟩
      have B5 := Lib.hid (bt B4.out b5)
      clear b5 q4
      have q5 := HAD.out _ B5.out
      go_wp2_with (fail)
      refine (JS.out _).mono ?_
      rintro e w6 ⟨rfl, rfl⟩
      go_wp2_with (fail)
      refine (JS.out _).mono ?_
      rintro e w6 ⟨rfl, rfl⟩
      clear q5
      go_wp2
      go_roundw
      case rel => exact ⟨k + 1, by go_num, by omega, B5⟩
      case measure => simp [intOf]; omega
    · obtain rfl : k = l.length := by omega
      clear hk hlt
      have hk' : ¬ ((l.length : Nat) : Int) < ((l.length : Nat) : Int) := by omega
      go_wp2_with (fail)
      go_loopw [9] (fun s9 wr2 => ∃ k : Nat, s9 = .int .i64 k ∧ k ≤ t.length ∧ Hid (Below w.heap.size w wr2)) (fun s9 _ => t.length - (intOf s9).toNat)
      case atStart => exact ⟨0, rfl, Nat.zero_le _, HB⟩
      case round =>
        rename_i wr2
        obtain ⟨k, rfl, hk, HZ⟩ := hrel
        by_cases hlt : k < t.length
        · obtain ⟨ad, rfl, hcell⟩ := (HT.out.below HZ.out).textAt hlt
          have hk' : ((k : Nat) : Int) < ((t.length : Nat) : Int) := by omega
          have HAD : Hid (∀ w1, Below w.heap.size w w1 → w1.cell? (ad.add k) = some (.string (t.getD k ByteArray.empty))) := Lib.hid fun w1 hb => by
            obtain ⟨ad', e, hc⟩ := (HT.out.below hb).textAt hlt
            cases e
            exact hc
          have J1 := Lib.hid (HX1.out k hlt)
          have J2 := Lib.hid (HX2.out k hlt)
          have JM := Lib.hid (sames (UX k) (BX.out k hlt))
          generalize UX k = U at *
          generalize t.getD k ByteArray.empty = x at *
          go_wp2_with (fail)
          go_region_held3 (fun w' => w'.cell? (ad.add k) = some (.string x))
            ((refine HAD.out _ ?_; first | exact B5.out | exact B4.out | exact B3.out | exact HZ.out.drew | exact HZ.out))
            (first
              | (go_at_call 16; ((with_reducible refine (J1.out _ HZ.out.drew).mono ?_); rintro e w3 ⟨A3, c3, rfl, l3, b3⟩; have L3 := Lib.hid l3; have B3 := Lib.hid (bt HZ.out.drew b3); clear b3 l3))
              | (go_at_call 17; ((with_reducible refine (J2.out _ B3.out).mono ?_); rintro e w4 ⟨A4, c4, rfl, l4, b4⟩; have L34 := Lib.hid (L3.out.later b4); have L4 := Lib.hid l4; have B4 := Lib.hid (bt B3.out b4); clear b4 l4))
              | (go_at_call 13; ((with_reducible refine (JM.out _ A3 A4 c3 c4 L34.out L4.out).mono ?_); rintro e w5 ⟨rfl, b5⟩; have B5 := Lib.hid (bt B4.out b5); clear b5)))
          go_wp2
          go_roundw
          case rel => exact ⟨k + 1, by go_num, by omega, B5⟩
          case measure => simp [intOf]; omega
        · obtain rfl : k = t.length := by omega
          clear hk hlt
          have JB := Lib.hid (sames UB BB.out)
          have JI := Lib.hid (sames UI BI.out)
          have JT := Lib.hid (sames UT BT.out)
          go_wp2_with (fail)
          refine (HB1.out _ HZ.out).mono ?_
          rintro e w10 ⟨A10, c10, rfl, l, b⟩
          have L10 := Lib.hid l
          have B10 := Lib.hid (bt HZ.out b)
          clear b l
          go_wp2_with (fail)
          refine (HB2.out _ B10.out).mono ?_
          rintro e w11 ⟨A11, c11, rfl, l, b⟩
          have L10 := Lib.hid (L10.out.later b)
          have L11 := Lib.hid l
          have B11 := Lib.hid (bt B10.out b)
          clear b l
          go_wp2_with (fail)
          refine (JB.out _ A10 A11 c10 c11 L10.out L11.out).mono ?_
          rintro e w12 ⟨rfl, b⟩
          have B12 := Lib.hid (bt B11.out b)
          clear b
          go_wp2_with (fail)
          refine (HN1.out _ B12.out).mono ?_
          rintro e w13 ⟨A13, c13, rfl, l, b⟩
          have L13 := Lib.hid l
          have B13 := Lib.hid (bt B12.out b)
          clear b l
          go_wp2_with (fail)
          refine (HN2.out _ B13.out).mono ?_
          rintro e w14 ⟨A14, c14, rfl, l, b⟩
          have L13 := Lib.hid (L13.out.later b)
          have L14 := Lib.hid l
          have B14 := Lib.hid (bt B13.out b)
          clear b l
          go_wp2_with (fail)
          refine (JI.out _ A13 A14 c13 c14 L13.out L14.out).mono ?_
          rintro e w15 ⟨rfl, b⟩
          have B15 := Lib.hid (bt B14.out b)
          clear b
          go_wp2_with (fail)
          refine (HM1.out _ B15.out).mono ?_
          rintro e w16 ⟨A16, c16, rfl, l, b⟩
          have L16 := Lib.hid l
          have B16 := Lib.hid (bt B15.out b)
          clear b l
          go_wp2_with (fail)
          refine (HM2.out _ B16.out).mono ?_
          rintro e w17 ⟨A17, c17, rfl, l, b⟩
          have L16 := Lib.hid (L16.out.later b)
          have L17 := Lib.hid l
          have B17 := Lib.hid (bt B16.out b)
          clear b l
          go_wp2_with (fail)
          refine (JT.out _ A16 A17 c16 c17 L16.out L17.out).mono ?_
          rintro e w18 ⟨rfl, b⟩
          have B18 := Lib.hid (bt B17.out b)
          clear b
          go_wp2
          go_ret
          exact ⟨by first | rfl | simp, B18.out⟩

set_option maxHeartbeats 1000000 in
theorem writes_out (w : World) (A B C : Option Addr) (ca cb cc nz nl : Nat) (t : List ByteArray)
    (HF : Hid (∀ w1, Below w.heap.size w w1 → Calls Try.prog 11 #[.slice C t.length cc, .int .i64 20, .int .i64 100] w1 fun e w' => e = .returned (.bool (few t 20 100)) ∧ w' = w1))
    (h : (100 : Int) < ((nz : Nat) : Int) ∨ (((nz : Nat) : Int) ≤ 100 ∧ (20 : Int) < ((nl : Nat) : Int)) ∨ (((nz : Nat) : Int) ≤ 100 ∧ ((nl : Nat) : Int) ≤ 20 ∧ few t 20 100 = false)) :
    Calls Try.prog 3 #[.slice A nz ca, .slice B nl cb, .slice C t.length cc] w fun e w' => e = .returned (.bool true) ∧ Below w.heap.size w w' := by
  rcases h with h | ⟨h, h2⟩ | ⟨h, h2, h3⟩
  · go_enter Try.func3, Try.ntmps3
    go_wp2_with (fail)
    refine (awake_any _).mono ?_
    rintro e w1 ⟨rfl, b1⟩
    go_wp2
    go_ret
    exact ⟨rfl, b1⟩
  · go_enter Try.func3, Try.ntmps3
    go_wp2_with (fail)
    refine (awake_any _).mono ?_
    rintro e w1 ⟨rfl, b1⟩
    go_wp2
    go_ret
    exact ⟨rfl, b1⟩
  · rw [h3] at HF
    go_enter Try.func3, Try.ntmps3
    go_wp2_with (fail)
    refine (awake_any _).mono ?_
    rintro e w1 ⟨rfl, b1⟩
    have B1 := Lib.hid b1
    clear b1
    go_wp2_with (fail)
    refine (HF.out _ B1.out).mono ?_
    rintro e w2 ⟨rfl, rfl⟩
    go_wp2
    go_ret
    exact ⟨rfl, B1.out⟩

theorem flat_length (l : List Int) (h : ∀ n ∈ l, isI n) : (l.flatMap enc).length ≤ 9 * l.length := by
  induction l with
  | nil => simp
  | cons a l ih =>
    have h1 := (enc_length a (h a (by simp))).2
    have h2 := ih fun n hn => h n (by simp [hn])
    rw [List.flatMap_cons, List.length_append, List.length_cons]
    omega

theorem flatT_length (l : List ByteArray) (h : ∀ s ∈ l, s.size ≤ 100) : (l.flatMap encT).length ≤ 109 * l.length := by
  induction l with
  | nil => simp
  | cons a l ih =>
    have h0 := h a (by simp)
    have h1 := (enc_length ((a.size : Nat) : Int) ⟨by omega, by omega⟩).2
    have h2 := ih fun n hn => h n (by simp [hn])
    have hE : (encT a).length = (enc ((a.size : Nat) : Int)).length + a.size := by unfold encT; rw [List.length_append, bytesL_length]
    rw [List.flatMap_cons, List.length_append, List.length_cons]
    omega

theorem app_bytes {X Y : List Int} (h1 : Bytes X) (h2 : Bytes Y) : Bytes (X ++ Y) := fun n hn => (List.mem_append.1 hn).elim (h1 n) (h2 n)
theorem flat_bytes (l : List Int) (h : ∀ n ∈ l, isI n) : Bytes (l.flatMap enc) := fun n hn => by
  obtain ⟨a, ha, hn⟩ := List.mem_flatMap.1 hn
  exact enc_bytes a (h a ha) n hn
theorem encT_bytes (s : ByteArray) (h : s.size ≤ 100) : Bytes (encT s) := app_bytes (enc_bytes _ ⟨by omega, by omega⟩) (bytesL_bytes s)
theorem flatT_bytes (l : List ByteArray) (h : ∀ s ∈ l, s.size ≤ 100) : Bytes (l.flatMap encT) := fun n hn => by
  obtain ⟨a, ha, hn⟩ := List.mem_flatMap.1 hn
  exact encT_bytes a (h a ha) n hn

theorem ints_of {zs : List Int} (h : ∀ n ∈ zs, (Lit.int .i64 n).wf = true) : ∀ n ∈ zs, isI n := fun n hn => by
  have : -9223372036854775808 ≤ n ∧ n ≤ 9223372036854775807 := by simpa [Lit.wf, IntKind.min, IntKind.max, IntKind.signed, IntKind.bits] using h n hn
  exact this

theorem few_spec (t : List ByteArray) (h : few t 20 100 = true) : (∀ s ∈ t, s.size ≤ 100) ∧ t.length ≤ 20 := by
  unfold few at h
  rw [Bool.and_eq_true, List.all_eq_true] at h
  refine ⟨fun s hs => ?_, ?_⟩
  · have := of_decide_eq_true (h.1 s hs)
    omega
  · have := of_decide_eq_true h.2
    omega

theorem getT_mem (l : List ByteArray) (k : Nat) (h : k < l.length) : l.getD k ByteArray.empty ∈ l := by
  simp [List.getD, h]

theorem walk (w : World) (A0 : Option Addr) (c0 : Nat) (Z : List Int) (hZ : Lies w .u8 w.heap.size A0 Z) (bZ : ∀ n ∈ Z, (Lit.int .u8 n).wf = true) (kZ : Z.length ≤ c0 ∧ c0 ≤ maxLen) (nZ : A0 = none → c0 = 0)
    (A1 : Option Addr) (c1 : Nat) (l : List Int) (hl : Lies w .i64 w.heap.size A1 l) (wl : ∀ n ∈ l, (Lit.int .i64 n).wf = true) (kl : l.length ≤ c1 ∧ c1 ≤ maxLen) (nl : A1 = none → c1 = 0)
    (A2 : Option Addr) (c2 : Nat) (t : List ByteArray) (ht : LiesV w w.heap.size A2 (t.map Value.string)) (wt : ∀ s ∈ t, s.size ≤ maxLen) (kt : t.length ≤ c2 ∧ c2 ≤ maxLen) (nt : A2 = none → c2 = 0) :
    Calls Try.prog 3 #[.slice A0 Z.length c0, .slice A1 l.length c1, .slice A2 t.length c2] w fun e w' => e = .returned (.bool true) ∧ Below w.heap.size w w' := by
  have bb := bytes_of bZ
  have ii := ints_of wl
  have HF : ∀ w1, Below w.heap.size w w1 → Calls Try.prog 11 #[.slice A2 t.length c2, .int .i64 20, .int .i64 100] w1 fun e w' => e = .returned (.bool (few t 20 100)) ∧ w' = w1 := fun w1 b1 => few_any A2 c2 t 20 100 w1 (ht.later b1) (by have := kt.1; have := kt.2; unfold maxLen at this; omega)
  by_cases h1 : Z.length ≤ 100
  · by_cases h2 : l.length ≤ 20
    · cases h3 : few t 20 100
      · exact writes_out w A0 A1 A2 c0 c1 c2 _ _ t (Lib.hid HF) (Or.inr (Or.inr ⟨by omega, by omega, h3⟩))
      · obtain ⟨f1, f2⟩ := few_spec t h3
        rw [h3] at HF
        have hn : isI ((l.length : Nat) : Int) := ⟨by omega, by omega⟩
        have hnt : isI ((t.length : Nat) : Int) := ⟨by omega, by omega⟩
        have e1 := (enc_length _ hn).2
        have e2 := (enc_length _ hnt).2
        have e3 := flat_length l ii
        have e4 := flatT_length t f1
        have hlI : (((Z ++ (enc ((l.length : Nat) : Int) ++ l.flatMap enc)).length : Nat) : Int) ≤ 40000 := by rw [List.length_append, List.length_append]; omega
        have hlT : (((Z ++ (enc ((t.length : Nat) : Int) ++ t.flatMap encT)).length : Nat) : Int) ≤ 40000 := by rw [List.length_append, List.length_append]; omega
        have hb01 : ∀ b : Bool, isI (if b then 1 else 0) := fun b => by cases b <;> exact ⟨by decide, by decide⟩
        refine writes_in w A0 A1 A2 c0 c1 c2 Z.length l t _ (Z ++ enc (if decide ((3 : Int) < ((l.length : Nat) : Int)) then 1 else 0)) (Z ++ (enc ((l.length : Nat) : Int) ++ l.flatMap enc)) (Z ++ (enc ((t.length : Nat) : Int) ++ t.flatMap encT)) (fun k => Z ++ enc (l.getD k 0)) (fun k => Z ++ encT (t.getD k ByteArray.empty)) (fun k => (((enc (l.getD k 0)).length : Nat) : Int)) (by omega) (by omega) (Lib.hid HF) (Lib.hid hl) (Lib.hid ht) (by omega)
          (Lib.hid fun k hk => rows1 fun w1 b1 => int_any A0 c0 Z _ w1 (hZ.later b1) (by omega) nZ (ii _ (getD_mem l k hk))) (Lib.hid fun k hk => rows1 fun w1 b1 => refInt_any A0 c0 Z _ w1 (hZ.later b1) (by omega) (ii _ (getD_mem l k hk)))
          (Lib.hid fun k hk w1 => size_any _ w1 (ii _ (getD_mem l k hk))) (Lib.hid fun k hk => ?_)
          (Lib.hid fun k hk => rows1 fun w1 b1 => text_any A0 c0 Z _ w1 (hZ.later b1) (by have := f1 _ (getT_mem t k hk); omega) nZ) (Lib.hid fun k hk => rows1 fun w1 b1 => refText_any A0 c0 Z _ w1 (hZ.later b1) (by have := f1 _ (getT_mem t k hk); omega))
          rfl (Lib.hid (rows1 fun w1 b1 => bool_write A0 c0 Z _ w1 (hZ.later b1) (by omega) nZ)) (Lib.hid (rows1 fun w1 b1 => refBool_write A0 c0 Z _ w1 (hZ.later b1) (by omega)))
          (Lib.hid (rows1 fun w1 b1 => ints_write A0 c0 Z A1 c1 l w1 (hZ.later b1) (hl.later b1) hlI (by omega) nZ ii)) (Lib.hid fun w1 b1 => refInts_write A0 c0 Z A1 c1 l w1 (hZ.later b1) (hl.later b1) hlI (by omega) ii)
          (Lib.hid (rows1 fun w1 b1 => texts_write A0 c0 Z A2 c2 t w1 (hZ.later b1) (ht.later b1) hlT (by omega) nZ)) (Lib.hid fun w1 b1 => refTexts_write A0 c0 Z A2 c2 t w1 (hZ.later b1) (ht.later b1) hlT (by omega))
          (Lib.hid fun k hk => app_bytes bb (enc_bytes _ (ii _ (getD_mem l k hk)))) (Lib.hid fun k hk => app_bytes bb (encT_bytes _ (f1 _ (getT_mem t k hk)))) (Lib.hid (app_bytes bb (enc_bytes _ (hb01 _)))) (Lib.hid (app_bytes bb (app_bytes (enc_bytes _ hn) (flat_bytes l ii)))) (Lib.hid (app_bytes bb (app_bytes (enc_bytes _ hnt) (flatT_bytes t f1))))
        have := (enc_length _ (ii _ (getD_mem l k hk))).2
        rw [List.length_append]
        omega
    · exact writes_out w A0 A1 A2 c0 c1 c2 _ _ t (Lib.hid HF) (Or.inr (Or.inl ⟨by omega, by omega⟩))
  · exact writes_out w A0 A1 A2 c0 c1 c2 _ _ t (Lib.hid HF) (Or.inl (by omega))

end Go.Proofs.Ytcibkgmochikmaa.WireWrites
