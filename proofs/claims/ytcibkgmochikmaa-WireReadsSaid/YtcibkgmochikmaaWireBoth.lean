/- Reading from both sources: the walk of 'read'. -/
import Derived.Test.YtcibkgmochikmaaWireRMeth2
import Derived.Test.YtcibkgmochikmaaWireErrs
namespace Go.Proofs.Ytcibkgmochikmaa.WireBoth
set_option linter.unusedVariables false
open Go.RowKit Go.Proofs.Ytcibkgmochikmaa.WireBase Go.Proofs.Ytcibkgmochikmaa.WireInt Go.Proofs.Ytcibkgmochikmaa.WireAppend

theorem cells4 {W : World} {g : Nat} {a b c d : Value} {T : TypeId} (h : W.heap[g]? = some (.cells #[a, b, c, d] T)) : W.cell? ⟨g, 1, none⟩ = some b ∧ W.cell? ⟨g, 2, none⟩ = some c ∧ W.cell? ⟨g, 3, none⟩ = some d := by
  refine ⟨?_, ?_, ?_⟩ <;> (simp only [World.cell?]; rw [h]; rfl)

set_option maxHeartbeats 4000000 in
theorem read_0 (w : World) (gs gt : Nat) (k m lo hi : Int) (P1 : World → Int → Prop) (P2 : World → Prop) (hk0 : (k == 0) = true)
    (J1 : Hid (∀ W, Below w.heap.size w W → W.heap[w.heap.size]? = some (.cells #[.int .i64 k, .int .i64 m, .int .i64 lo, .int .i64 hi] 44) → Calls Try.prog 32 #[.pointer (some ⟨gs, 0, none⟩), .int .i64 lo, .int .i64 hi] W fun r w' => ∃ x : Int, r = .returned (.int .i64 x) ∧ w'.heap[w.heap.size]? = W.heap[w.heap.size]? ∧ P1 w' x))
    (J2 : Hid (∀ W x, P1 W x → Calls Try.prog 43 #[.pointer (some ⟨gt, 0, none⟩), .int .i64 lo, .int .i64 hi] W fun r w' => r = .returned (.int .i64 x) ∧ w'.heap[w.heap.size]? = W.heap[w.heap.size]? ∧ P2 w')) :
    Calls Try.prog 24 #[.pointer (some ⟨gs, 0, none⟩), .pointer (some ⟨gt, 0, none⟩), .agg #[.int .i64 k, .int .i64 m, .int .i64 lo, .int .i64 hi]] w fun r w' => r = .returned (.bool true) ∧ P2 w' := by
  have HE0 : (w.alloc (.cells #[.int .i64 k, .int .i64 m, .int .i64 lo, .int .i64 hi] 44)).heap[w.heap.size]? = some (.cells #[.int .i64 k, .int .i64 m, .int .i64 lo, .int .i64 hi] 44) := by
    show (w.heap.push _)[w.heap.size]? = _
    simp
  have hb : Below w.heap.size w (w.alloc (.cells #[.int .i64 k, .int .i64 m, .int .i64 lo, .int .i64 hi] 44)).drew := ((Below.refl _ _).alloc (Nat.le_refl _) _).drew
  have HB := Lib.hid hb
  have HE : Hid ((w.alloc (.cells #[.int .i64 k, .int .i64 m, .int .i64 lo, .int .i64 hi] 44)).drew.heap[w.heap.size]? = some (.cells #[.int .i64 k, .int .i64 m, .int .i64 lo, .int .i64 hi] 44)) := Lib.hid HE0
  clear hb HE0
  go_enter Try.func24, Try.ntmps24
  go_wp2_with (fail)
  go_region_held3 (fun w' => w'.cell? ⟨w.heap.size, 1, none⟩ = some (.int .i64 m) ∧ w'.cell? ⟨w.heap.size, 2, none⟩ = some (.int .i64 lo) ∧ w'.cell? ⟨w.heap.size, 3, none⟩ = some (.int .i64 hi))
    (first | exact cells4 E2.out | exact cells4 E1.out | exact cells4 HE.out)
    (first
      | (go_at_call 32; ((with_reducible refine (J1.out _ HB.out HE.out).mono ?_); rintro r w1 ⟨x, rfl, e1, p1⟩; have E1 := Lib.hid (e1.trans HE.out); have PP1 := Lib.hid p1; clear e1 p1))
      | (go_at_call 43; ((with_reducible refine (J2.out _ _ PP1.out).mono ?_); rintro r w2 ⟨rfl, e2, p2⟩; have E2 := Lib.hid (e2.trans E1.out); have PP2 := Lib.hid p2; clear e2 p2)))
  all_goals
    go_wp2
    go_ret
    exact ⟨by first | rfl | simp, PP2.out⟩

set_option maxHeartbeats 4000000 in
theorem read_1 (w : World) (gs gt : Nat) (k m lo hi : Int) (P1 : World → Bool → Prop) (P2 : World → Prop) (hk0 : (k == 0) = false) (hk1 : (k == 1) = true)
    (J1 : Hid (∀ W, Below w.heap.size w W → W.heap[w.heap.size]? = some (.cells #[.int .i64 k, .int .i64 m, .int .i64 lo, .int .i64 hi] 44) → Calls Try.prog 33 #[.pointer (some ⟨gs, 0, none⟩)] W fun r w' => ∃ x : Bool, r = .returned (.bool x) ∧ w'.heap[w.heap.size]? = W.heap[w.heap.size]? ∧ P1 w' x))
    (J2 : Hid (∀ W x, P1 W x → Calls Try.prog 44 #[.pointer (some ⟨gt, 0, none⟩)] W fun r w' => r = .returned (.bool x) ∧ w'.heap[w.heap.size]? = W.heap[w.heap.size]? ∧ P2 w')) :
    Calls Try.prog 24 #[.pointer (some ⟨gs, 0, none⟩), .pointer (some ⟨gt, 0, none⟩), .agg #[.int .i64 k, .int .i64 m, .int .i64 lo, .int .i64 hi]] w fun r w' => r = .returned (.bool true) ∧ P2 w' := by
  have HE0 : (w.alloc (.cells #[.int .i64 k, .int .i64 m, .int .i64 lo, .int .i64 hi] 44)).heap[w.heap.size]? = some (.cells #[.int .i64 k, .int .i64 m, .int .i64 lo, .int .i64 hi] 44) := by
    show (w.heap.push _)[w.heap.size]? = _
    simp
  have hb : Below w.heap.size w (w.alloc (.cells #[.int .i64 k, .int .i64 m, .int .i64 lo, .int .i64 hi] 44)) := (Below.refl _ _).alloc (Nat.le_refl _) _
  have HB := Lib.hid hb
  have HE : Hid ((w.alloc (.cells #[.int .i64 k, .int .i64 m, .int .i64 lo, .int .i64 hi] 44)).heap[w.heap.size]? = some (.cells #[.int .i64 k, .int .i64 m, .int .i64 lo, .int .i64 hi] 44)) := Lib.hid HE0
  clear hb HE0
  go_enter Try.func24, Try.ntmps24
  go_wp2_with (fail)
  refine (J1.out _ HB.out HE.out).mono ?_
  rintro r w1 ⟨x, rfl, e1, p1⟩
  have E1 := Lib.hid (e1.trans HE.out)
  have PP1 := Lib.hid p1
  clear e1 p1
  go_wp2_with (fail)
  refine (J2.out _ _ PP1.out).mono ?_
  rintro r w2 ⟨rfl, e2, p2⟩
  have PP2 := Lib.hid p2
  clear e2 p2
  go_wp2
  go_ret
  exact ⟨by first | rfl | simp, PP2.out⟩

set_option maxHeartbeats 4000000 in
theorem read_2 (w : World) (gs gt : Nat) (k m lo hi : Int) (P1 : World → ByteArray → Prop) (P2 : World → Prop) (hk0 : (k == 0) = false) (hk1 : (k == 1) = false) (hk2 : (k == 2) = true)
    (J1 : Hid (∀ W, Below w.heap.size w W → W.heap[w.heap.size]? = some (.cells #[.int .i64 k, .int .i64 m, .int .i64 lo, .int .i64 hi] 44) → Calls Try.prog 34 #[.pointer (some ⟨gs, 0, none⟩), .int .i64 m] W fun r w' => ∃ x : ByteArray, r = .returned (.string x) ∧ w'.heap[w.heap.size]? = W.heap[w.heap.size]? ∧ P1 w' x))
    (J2 : Hid (∀ W x, P1 W x → Calls Try.prog 45 #[.pointer (some ⟨gt, 0, none⟩), .int .i64 m] W fun r w' => r = .returned (.string x) ∧ w'.heap[w.heap.size]? = W.heap[w.heap.size]? ∧ P2 w')) :
    Calls Try.prog 24 #[.pointer (some ⟨gs, 0, none⟩), .pointer (some ⟨gt, 0, none⟩), .agg #[.int .i64 k, .int .i64 m, .int .i64 lo, .int .i64 hi]] w fun r w' => r = .returned (.bool true) ∧ P2 w' := by
  have HE0 : (w.alloc (.cells #[.int .i64 k, .int .i64 m, .int .i64 lo, .int .i64 hi] 44)).heap[w.heap.size]? = some (.cells #[.int .i64 k, .int .i64 m, .int .i64 lo, .int .i64 hi] 44) := by
    show (w.heap.push _)[w.heap.size]? = _
    simp
  have hb : Below w.heap.size w (w.alloc (.cells #[.int .i64 k, .int .i64 m, .int .i64 lo, .int .i64 hi] 44)).drew := ((Below.refl _ _).alloc (Nat.le_refl _) _).drew
  have HB := Lib.hid hb
  have HE : Hid ((w.alloc (.cells #[.int .i64 k, .int .i64 m, .int .i64 lo, .int .i64 hi] 44)).drew.heap[w.heap.size]? = some (.cells #[.int .i64 k, .int .i64 m, .int .i64 lo, .int .i64 hi] 44)) := Lib.hid HE0
  clear hb HE0
  go_enter Try.func24, Try.ntmps24
  go_wp2_with (fail)
  go_region_held3 (fun w' => w'.cell? ⟨w.heap.size, 1, none⟩ = some (.int .i64 m) ∧ w'.cell? ⟨w.heap.size, 2, none⟩ = some (.int .i64 lo) ∧ w'.cell? ⟨w.heap.size, 3, none⟩ = some (.int .i64 hi))
    (first | exact cells4 E2.out | exact cells4 E1.out | exact cells4 HE.out)
    (first
      | (go_at_call 34; ((with_reducible refine (J1.out _ HB.out HE.out).mono ?_); rintro r w1 ⟨x, rfl, e1, p1⟩; have E1 := Lib.hid (e1.trans HE.out); have PP1 := Lib.hid p1; clear e1 p1))
      | (go_at_call 45; ((with_reducible refine (J2.out _ _ PP1.out).mono ?_); rintro r w2 ⟨rfl, e2, p2⟩; have E2 := Lib.hid (e2.trans E1.out); have PP2 := Lib.hid p2; clear e2 p2)))
  all_goals
    go_wp2
    go_ret
    exact ⟨by first | rfl | simp, PP2.out⟩

set_option maxHeartbeats 4000000 in
theorem read_3 (w : World) (gs gt : Nat) (k m lo hi : Int) (P1 : World → Value → Prop) (P2 : World → Value → Value → Prop) (P3 : World → Prop) (hk0 : (k == 0) = false) (hk1 : (k == 1) = false) (hk2 : (k == 2) = false) (hk3 : (k == 3) = true)
    (J1 : Hid (∀ W, Below w.heap.size w W → W.heap[w.heap.size]? = some (.cells #[.int .i64 k, .int .i64 m, .int .i64 lo, .int .i64 hi] 44) → Calls Try.prog 29 #[.pointer (some ⟨gs, 0, none⟩), .int .i64 m, .int .i64 lo, .int .i64 hi] W fun r w' => ∃ x : Value, r = .returned x ∧ w'.heap[w.heap.size]? = W.heap[w.heap.size]? ∧ P1 w' x))
    (J2 : Hid (∀ W x, P1 W x → Calls Try.prog 46 #[.pointer (some ⟨gt, 0, none⟩), .int .i64 m, .int .i64 lo, .int .i64 hi] W fun r w' => ∃ y : Value, r = .returned y ∧ w'.heap[w.heap.size]? = W.heap[w.heap.size]? ∧ P2 w' x y))
    (J3 : Hid (∀ W x y, P2 W x y → Calls Try.prog 28 #[x, y] W fun r w' => r = .returned (.bool true) ∧ w'.heap[w.heap.size]? = W.heap[w.heap.size]? ∧ P3 w')) :
    Calls Try.prog 24 #[.pointer (some ⟨gs, 0, none⟩), .pointer (some ⟨gt, 0, none⟩), .agg #[.int .i64 k, .int .i64 m, .int .i64 lo, .int .i64 hi]] w fun r w' => r = .returned (.bool true) ∧ P3 w' := by
  have HE0 : (w.alloc (.cells #[.int .i64 k, .int .i64 m, .int .i64 lo, .int .i64 hi] 44)).heap[w.heap.size]? = some (.cells #[.int .i64 k, .int .i64 m, .int .i64 lo, .int .i64 hi] 44) := by
    show (w.heap.push _)[w.heap.size]? = _
    simp
  have hb : Below w.heap.size w (w.alloc (.cells #[.int .i64 k, .int .i64 m, .int .i64 lo, .int .i64 hi] 44)).drew := ((Below.refl _ _).alloc (Nat.le_refl _) _).drew
  have HB := Lib.hid hb
  have HE : Hid ((w.alloc (.cells #[.int .i64 k, .int .i64 m, .int .i64 lo, .int .i64 hi] 44)).drew.heap[w.heap.size]? = some (.cells #[.int .i64 k, .int .i64 m, .int .i64 lo, .int .i64 hi] 44)) := Lib.hid HE0
  clear hb HE0
  go_enter Try.func24, Try.ntmps24
  go_wp2_with (fail)
  go_region_held3 (fun w' => w'.cell? ⟨w.heap.size, 1, none⟩ = some (.int .i64 m) ∧ w'.cell? ⟨w.heap.size, 2, none⟩ = some (.int .i64 lo) ∧ w'.cell? ⟨w.heap.size, 3, none⟩ = some (.int .i64 hi))
    (first | exact cells4 E3.out | exact cells4 E2.out | exact cells4 E1.out | exact cells4 HE.out)
    (first
      | (go_at_call 29; ((with_reducible refine (J1.out _ HB.out HE.out).mono ?_); rintro r w1 ⟨x, rfl, e1, p1⟩; have E1 := Lib.hid (e1.trans HE.out); have PP1 := Lib.hid p1; clear e1 p1))
      | (go_at_call 46; ((with_reducible refine (J2.out _ _ PP1.out).mono ?_); rintro r w2 ⟨y, rfl, e2, p2⟩; have E2 := Lib.hid (e2.trans E1.out); have PP2 := Lib.hid p2; clear e2 p2))
      | (go_at_call 28; ((with_reducible refine (J3.out _ _ _ PP2.out).mono ?_); rintro r w3 ⟨rfl, e3, p3⟩; have E3 := Lib.hid (e3.trans E2.out); have PP3 := Lib.hid p3; clear e3 p3)))
  all_goals
    go_wp2
    go_ret
    exact ⟨by first | rfl | simp, PP3.out⟩

set_option maxHeartbeats 4000000 in
theorem read_4 (w : World) (gs gt : Nat) (k m lo hi : Int) (P1 : World → Value → Prop) (P2 : World → Value → Value → Prop) (P3 : World → Prop) (hk0 : (k == 0) = false) (hk1 : (k == 1) = false) (hk2 : (k == 2) = false) (hk3 : (k == 3) = false)
    (J1 : Hid (∀ W, Below w.heap.size w W → W.heap[w.heap.size]? = some (.cells #[.int .i64 k, .int .i64 m, .int .i64 lo, .int .i64 hi] 44) → Calls Try.prog 31 #[.pointer (some ⟨gs, 0, none⟩), .int .i64 m, .int .i64 hi] W fun r w' => ∃ x : Value, r = .returned x ∧ w'.heap[w.heap.size]? = W.heap[w.heap.size]? ∧ P1 w' x))
    (J2 : Hid (∀ W x, P1 W x → Calls Try.prog 47 #[.pointer (some ⟨gt, 0, none⟩), .int .i64 m, .int .i64 hi] W fun r w' => ∃ y : Value, r = .returned y ∧ w'.heap[w.heap.size]? = W.heap[w.heap.size]? ∧ P2 w' x y))
    (J3 : Hid (∀ W x y, P2 W x y → Calls Try.prog 30 #[x, y] W fun r w' => r = .returned (.bool true) ∧ w'.heap[w.heap.size]? = W.heap[w.heap.size]? ∧ P3 w')) :
    Calls Try.prog 24 #[.pointer (some ⟨gs, 0, none⟩), .pointer (some ⟨gt, 0, none⟩), .agg #[.int .i64 k, .int .i64 m, .int .i64 lo, .int .i64 hi]] w fun r w' => r = .returned (.bool true) ∧ P3 w' := by
  have HE0 : (w.alloc (.cells #[.int .i64 k, .int .i64 m, .int .i64 lo, .int .i64 hi] 44)).heap[w.heap.size]? = some (.cells #[.int .i64 k, .int .i64 m, .int .i64 lo, .int .i64 hi] 44) := by
    show (w.heap.push _)[w.heap.size]? = _
    simp
  have hb : Below w.heap.size w (w.alloc (.cells #[.int .i64 k, .int .i64 m, .int .i64 lo, .int .i64 hi] 44)).drew := ((Below.refl _ _).alloc (Nat.le_refl _) _).drew
  have HB := Lib.hid hb
  have HE : Hid ((w.alloc (.cells #[.int .i64 k, .int .i64 m, .int .i64 lo, .int .i64 hi] 44)).drew.heap[w.heap.size]? = some (.cells #[.int .i64 k, .int .i64 m, .int .i64 lo, .int .i64 hi] 44)) := Lib.hid HE0
  clear hb HE0
  go_enter Try.func24, Try.ntmps24
  go_wp2_with (fail)
  go_region_held3 (fun w' => w'.cell? ⟨w.heap.size, 1, none⟩ = some (.int .i64 m) ∧ w'.cell? ⟨w.heap.size, 2, none⟩ = some (.int .i64 lo) ∧ w'.cell? ⟨w.heap.size, 3, none⟩ = some (.int .i64 hi))
    (first | exact cells4 E3.out | exact cells4 E2.out | exact cells4 E1.out | exact cells4 HE.out)
    (first
      | (go_at_call 31; ((with_reducible refine (J1.out _ HB.out HE.out).mono ?_); rintro r w1 ⟨x, rfl, e1, p1⟩; have E1 := Lib.hid (e1.trans HE.out); have PP1 := Lib.hid p1; clear e1 p1))
      | (go_at_call 47; ((with_reducible refine (J2.out _ _ PP1.out).mono ?_); rintro r w2 ⟨y, rfl, e2, p2⟩; have E2 := Lib.hid (e2.trans E1.out); have PP2 := Lib.hid p2; clear e2 p2))
      | (go_at_call 30; ((with_reducible refine (J3.out _ _ _ PP2.out).mono ?_); rintro r w3 ⟨rfl, e3, p3⟩; have E3 := Lib.hid (e3.trans E2.out); have PP3 := Lib.hid p3; clear e3 p3)))
  all_goals
    go_wp2
    go_ret
    exact ⟨by first | rfl | simp, PP3.out⟩

end Go.Proofs.Ytcibkgmochikmaa.WireBoth
