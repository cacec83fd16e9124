/- The law WireOrder. -/
import Derived.Test.YtcibkgmochikmaaWireAwake
namespace Go.Proofs.Ytcibkgmochikmaa.WireOrder
set_option linter.unusedVariables false
open Go.RowKit Go.Proofs.Ytcibkgmochikmaa.WireBase Go.Proofs.Ytcibkgmochikmaa.WireInt Go.Proofs.Ytcibkgmochikmaa.WireAppend Go.Proofs.Ytcibkgmochikmaa.WireOrd Go.Proofs.Ytcibkgmochikmaa.WireAwake

theorem cvt {w : World} {A : Option Addr} {B : Nat} {X : List Int} {s : ByteArray} (hs : s = strOfNums X) (c : Nat) (h : Lies w .u8 B A X) : (convert 22 9 (.slice A X.length c)).run Try.prog w = .ok (.string s) w := hs ▸ convert_lies h rfl

set_option maxHeartbeats 2000000 in
theorem order_main (a b : Int) (X Y : List Int) (sx sy : ByteArray) (t : Bool) (w : World) (HX : Hid (sx = strOfNums X)) (HY : Hid (sy = strOfNums Y)) (hl : Op.bytesLess sx.toList sy.toList = t) (ht : decide (a < b) = t) (hab : (a == b) = false) (HE : Hid (∀ k, k = min sx.size sy.size → ((sx.extract 0 k).toList == (sy.extract 0 k).toList) = false))
    (HA : Hid (∀ w, Calls Try.prog 12 #[.slice none 0 0, .int .i64 a] w fun e w' => ∃ A c, e = .returned (.slice A X.length c) ∧ Lies w' .u8 w'.heap.size A X ∧ Below w.heap.size w w'))
    (HB : Hid (∀ w, Calls Try.prog 12 #[.slice none 0 0, .int .i64 b] w fun e w' => ∃ A c, e = .returned (.slice A Y.length c) ∧ Lies w' .u8 w'.heap.size A Y ∧ Below w.heap.size w w')) :
    Calls Try.prog 7 #[.int .i64 a, .int .i64 b] w fun e w' => e = .returned (.bool true) ∧ Below w.heap.size w w' := by
  go_enter Try.func7, Try.ntmps7
  go_wp2_with (fail)
  refine (awake_any _).mono ?_
  rintro e w1 ⟨rfl, b1⟩
  have B1 := Lib.hid b1
  clear b1
  go_wp2_with (fail)
  go_region_with (first
    | (go_at_call 12; ((with_reducible refine (HA.out _).mono ?_); rintro e w2 ⟨A1, c1, rfl, l1, b2⟩; have L1 := Lib.hid l1; have B2 := Lib.hid (bt B1.out.drew b2); have cv1 := cvt HX.out c1 l1; clear b2 l1))
    | (go_at_call 12; ((with_reducible refine (HB.out _).mono ?_); rintro e w3 ⟨A2, c2, rfl, l2, b3⟩; have B3 := Lib.hid (bt B2.out b3); have cv2 := cvt HX.out c1 (L1.out.later b3); have cv3 := cvt HY.out c2 l2; clear b3 l2)))
  all_goals
    have h1 : 0 ≤ min ((sx.size : Nat) : Int) ((sy.size : Nat) : Int) := by omega
    have h2 : min ((sx.size : Nat) : Int) ((sy.size : Nat) : Int) ≤ sx.size := by omega
    have h3 : min ((sx.size : Nat) : Int) ((sy.size : Nat) : Int) ≤ sy.size := by omega
    have hx := HE.out _ (show (min ((sx.size : Nat) : Int) ((sy.size : Nat) : Int)).toNat = min sx.size sy.size by omega)
    go_wp2_with (fail)
    generalize min ((sx.size : Nat) : Int) ((sy.size : Nat) : Int) = q at *
    go_region
    go_wp2
    go_ret
    exact ⟨by first | rfl | simp, B3.out.drew⟩

set_option maxHeartbeats 2000000 in
theorem order_same (a b : Int) (X Y : List Int) (sx sy : ByteArray) (t : Bool) (w : World) (HX : Hid (sx = strOfNums X)) (HY : Hid (sy = strOfNums Y)) (hs : (sx.toList == sy.toList) = true) (hab : (a == b) = true) (hne : sx.toList.isEmpty = false)
    (HA : Hid (∀ w, Calls Try.prog 12 #[.slice none 0 0, .int .i64 a] w fun e w' => ∃ A c, e = .returned (.slice A X.length c) ∧ Lies w' .u8 w'.heap.size A X ∧ Below w.heap.size w w'))
    (HB : Hid (∀ w, Calls Try.prog 12 #[.slice none 0 0, .int .i64 b] w fun e w' => ∃ A c, e = .returned (.slice A Y.length c) ∧ Lies w' .u8 w'.heap.size A Y ∧ Below w.heap.size w w')) :
    Calls Try.prog 7 #[.int .i64 a, .int .i64 b] w fun e w' => e = .returned (.bool true) ∧ Below w.heap.size w w' := by
  go_enter Try.func7, Try.ntmps7
  go_wp2_with (fail)
  refine (awake_any _).mono ?_
  rintro e w1 ⟨rfl, b1⟩
  have B1 := Lib.hid b1
  clear b1
  go_wp2_with (fail)
  go_region_with (first
    | (go_at_call 12; ((with_reducible refine (HA.out _).mono ?_); rintro e w2 ⟨A1, c1, rfl, l1, b2⟩; have L1 := Lib.hid l1; have B2 := Lib.hid (bt B1.out.drew b2); have cv1 := cvt HX.out c1 l1; clear b2 l1))
    | (go_at_call 12; ((with_reducible refine (HB.out _).mono ?_); rintro e w3 ⟨A2, c2, rfl, l2, b3⟩; have B3 := Lib.hid (bt B2.out b3); have cv2 := cvt HX.out c1 (L1.out.later b3); have cv3 := cvt HY.out c2 l2; clear b3 l2)))
  all_goals
    go_wp2
    go_ret
    exact ⟨by first | rfl | simp, by first | exact B3.out | exact B3.out.drew⟩

theorem extract_take (X : List Int) (k : Nat) : (strOfNums X).extract 0 k = strOfNums (X.take k) := by
  apply ByteArray.ext
  apply Array.ext'
  rw [strOfNums_data, ByteArray.data_extract, Array.toList_extract, strOfNums_data]
  simp

theorem walk (w : World) (a : Int) (ha : (Lit.int .i64 a).wf = true) (b : Int) (hb : (Lit.int .i64 b).wf = true) :
    Calls Try.prog 7 #[.int .i64 a, .int .i64 b] w fun e w' => e = .returned (.bool true) ∧ Below w.heap.size w w' := by
  have ia : isI a := by
    have : -9223372036854775808 ≤ a ∧ a ≤ 9223372036854775807 := by simpa [Lit.wf, IntKind.min, IntKind.max, IntKind.signed, IntKind.bits] using ha
    exact this
  have ib : isI b := by
    have : -9223372036854775808 ≤ b ∧ b ≤ 9223372036854775807 := by simpa [Lit.wf, IntKind.min, IntKind.max, IntKind.signed, IntKind.bits] using hb
    exact this
  have bX := enc_bytes a ia
  have bY := enc_bytes b ib
  have HA := Lib.hid (fun w => int_nil a w ia)
  have HB := Lib.hid (fun w => int_nil b w ib)
  have ne : ∀ X Y : List Int, Bytes X → Bytes Y → (X.take (min X.length Y.length) ≠ Y.take (min X.length Y.length)) → Hid (∀ k, k = min (strOfNums X).size (strOfNums Y).size → (((strOfNums X).extract 0 k).toList == ((strOfNums Y).extract 0 k).toList) = false) := fun X Y bX bY h => Lib.hid fun k hk => by
    rw [hk, strOfNums_size, strOfNums_size, extract_take, extract_take, Lib.strOfNums_toList, Lib.strOfNums_toList, bytes_eq (fun n hn => bX n (List.mem_of_mem_take hn)) (fun n hn => bY n (List.mem_of_mem_take hn)), decide_eq_false h]
  rcases Int.lt_trichotomy a b with h | rfl | h
  · have hB := enc_before a b ia ib h
    refine order_main a b (enc a) (enc b) _ _ true w (Lib.hid rfl) (Lib.hid rfl) ?_ (decide_eq_true h) (beq_eq_false_iff_ne.2 (by omega)) (ne _ _ bX bY (take_ne _ _ hB)) HA HB
    rw [Lib.strOfNums_toList, Lib.strOfNums_toList]
    exact (less_of _ _ bX bY hB).1
  · refine order_same a a (enc a) (enc a) _ _ true w (Lib.hid rfl) (Lib.hid rfl) (by simp) (by simp) ?_ HA HB
    rw [Lib.strOfNums_toList]
    have := (enc_length a ia).1
    unfold Lib.bytesOf
    cases h : enc a with
    | nil => rw [h] at this; simp at this
    | cons x l => rfl
  · have hB := enc_before b a ib ia h
    refine order_main a b (enc a) (enc b) _ _ false w (Lib.hid rfl) (Lib.hid rfl) ?_ (decide_eq_false (by omega)) (beq_eq_false_iff_ne.2 (by omega)) (ne _ _ bX bY ?_) HA HB
    · rw [Lib.strOfNums_toList, Lib.strOfNums_toList]
      exact (less_of _ _ bY bX hB).2
    · have := take_ne _ _ hB
      rw [Nat.min_comm] at this
      exact fun e => this e.symm

end Go.Proofs.Ytcibkgmochikmaa.WireOrder
