/- The law DigestOf. -/
import Derived.Test.YtpgkgagmdjhojaaDigRefOpen
import Derived.Test.YtpgkgagmdjhojaaDigAwake
namespace Go.Proofs.Ytpgkgagmdjhojaa.DigOf
set_option linter.unusedVariables false
open Go.RowKit Go.Proofs.Ytpgkgagmdjhojaa.DigMul Go.Proofs.Ytpgkgagmdjhojaa.DigExt Go.Proofs.Ytpgkgagmdjhojaa.DigSeal Go.Proofs.Ytpgkgagmdjhojaa.DigParts Go.Proofs.Ytpgkgagmdjhojaa.DigAwake Go.Proofs.Ytpgkgagmdjhojaa.DigOpen Go.Proofs.Ytpgkgagmdjhojaa.DigRef Go.Proofs.Ytpgkgagmdjhojaa.DigSame Go.Proofs.Ytpgkgagmdjhojaa.DigRefSeal Go.Proofs.Ytpgkgagmdjhojaa.DigRefOpen

theorem more_bad (d : Int) (A : Option Addr) (cap n : Nat) (w : World) (hd : isD d = false) :
    Calls Try.prog 11 #[.int .i64 d, .slice A n cap] w fun e w' => e = .returned (.tuple #[.int .i64 0, .int .i64 2]) ∧ Below w.heap.size w w' := by
  have HV : Hid (∀ w, Calls Try.prog 28 #[.int .i64 d] w fun e w' => e = .returned (.bool false) ∧ w = w') := Lib.hid fun w => by rw [← hd]; exact valid_any d w
  clear hd
  go_enter Try.func11, Try.ntmps11
  go_wp2_with (fail)
  refine (HV.out _).mono ?_
  rintro e w' ⟨rfl, rfl⟩
  go_wp2
  go_ret2
  exact ⟨rfl, Below.refl _ _⟩

/-- A call that returns a row of bytes and a number, wherever it stands later than w. -/
def Rows2 (f : FuncId) (args : Array Value) (w : World) (U : List Int) (g : Int) : Prop := ∀ w1, Below w.heap.size w w1 → Calls Try.prog f args w1 fun e w' => ∃ A1 c1, e = .returned (.tuple #[.slice A1 U.length c1, .int .i64 g]) ∧ Lies w' .u8 w'.heap.size A1 U ∧ Below w1.heap.size w1 w'
def Rows1 (f : FuncId) (args : Array Value) (w : World) (U : List Int) : Prop := ∀ w1, Below w.heap.size w w1 → Calls Try.prog f args w1 fun e w' => ∃ A1 c1, e = .returned (.slice A1 U.length c1) ∧ Lies w' .u8 w'.heap.size A1 U ∧ Below w1.heap.size w1 w'
def Gives (f : FuncId) (args : Array Value) (w : World) (v : Value) : Prop := ∀ w1, Below w.heap.size w w1 → Calls Try.prog f args w1 fun e w' => e = .returned v ∧ Below w1.heap.size w1 w'

theorem opens (A : Option Addr) (cap : Nat) (Z : List Int) (w : World) (hl : Lies w .u8 w.heap.size A Z) (hb : Bytes Z) (hlen : ((Z.length : Nat) : Int) ≤ 200) (hc : Z.length ≤ cap) :
    ∃ U g, Bytes U ∧ Rows2 13 #[.slice A Z.length cap] w U g ∧ Rows2 14 #[.slice A Z.length cap] w U g := by
  by_cases h8 : Z.length < 8
  · refine ⟨[], 4, (fun n h => by cases h), fun w1 b1 => ?_, fun w1 b1 => ?_⟩
    · refine (open_short A Z.length cap w1 h8).mono ?_
      rintro e w' ⟨rfl, b⟩
      exact ⟨none, 0, rfl, (fun h => by cases h), b⟩
    · refine (refOpen_short A Z.length cap w1 h8).mono ?_
      rintro e w' ⟨rfl, b⟩
      exact ⟨none, 0, rfl, (fun h => by cases h), b⟩
  · obtain ⟨ad, rfl, hlt, hcell⟩ := hl (by omega)
    obtain ⟨p0, o0, spot⟩ := ad
    have hspot : spot = none := by
      have := World.cell?_spot (hcell 0 (by omega))
      simpa [Addr.add] using this
    subst hspot
    obtain ⟨xs, ys, hz, hy⟩ : ∃ xs ys, Z = xs ++ ys ∧ ys.length = 8 := ⟨Z.take (Z.length - 8), Z.drop (Z.length - 8), (List.take_append_drop _ _).symm, by rw [List.length_drop]; omega⟩
    subst hz
    have bx : Bytes xs := fun n h => hb n (List.mem_append_left _ h)
    have by' : Bytes ys := fun n h => hb n (List.mem_append_right _ h)
    have hn : (xs ++ ys).length = xs.length + 8 := by rw [List.length_append, hy]
    rw [hn] at hlen hc ⊢
    have M1 := fun w1 (b1 : Below w.heap.size w w1) => open_main p0 o0 cap xs.length xs ys w1 _ (hl.later b1) bx by' rfl hy (by omega) (by omega) rfl
    have M2 := fun w1 (b1 : Below w.heap.size w w1) => refOpen_main p0 o0 cap xs.length xs ys w1 _ (hl.later b1) bx by' rfl hy (by omega) (by omega) rfl
    by_cases ht : ys = sumB (ext 0 xs)
    · rw [decide_eq_true ht] at M1 M2
      refine ⟨xs, 0, bx, fun w1 b1 => (M1 w1 b1).mono ?_, fun w1 b1 => (M2 w1 b1).mono ?_⟩
      all_goals
        rintro e w' (⟨_, v, rfl, hown, b⟩ | ⟨h, _⟩)
        · obtain ⟨A1, c1, rfl, l1⟩ := own_lies hown
          exact ⟨A1, c1, rfl, l1, b⟩
        · cases h
    · rw [decide_eq_false ht] at M1 M2
      refine ⟨[], 5, (fun n h => by cases h), fun w1 b1 => (M1 w1 b1).mono ?_, fun w1 b1 => (M2 w1 b1).mono ?_⟩
      all_goals
        rintro e w' (⟨h, _⟩ | ⟨_, rfl, b⟩)
        · cases h
        · exact ⟨none, 0, rfl, (fun h => by cases h), b⟩

theorem mores (d : Int) (A : Option Addr) (cap : Nat) (Z : List Int) (w : World) (hl : Lies w .u8 w.heap.size A Z) (hb : Bytes Z) (hlen : ((Z.length : Nat) : Int) ≤ 200) :
    ∃ x e, Gives 11 #[.int .i64 d, .slice A Z.length cap] w (.tuple #[.int .i64 x, .int .i64 e]) ∧ Gives 12 #[.int .i64 d, .slice A Z.length cap] w (.tuple #[.int .i64 x, .int .i64 e]) := by
  by_cases hd : isD d = true
  · exact ⟨_, 0, fun w1 b1 => more_ok d A cap Z w1 hd (hl.later b1) hb (by omega), fun w1 b1 => refMore_in d A cap Z w1 hd (hl.later b1) hb (by omega)⟩
  · have hd' := mt (isD_iff d).2 hd
    exact ⟨0, 2, fun w1 b1 => more_bad d A cap _ w1 (by simpa using hd), fun w1 b1 => refMore_out d A cap _ w1 (by omega)⟩

theorem rows1 {f : FuncId} {args : Array Value} {w : World} {U : List Int} (h : ∀ w1, Below w.heap.size w w1 → Calls Try.prog f args w1 fun e w' => ∃ v, e = .returned v ∧ Own w' w1.heap.size v U ∧ Below w1.heap.size w1 w') : Rows1 f args w U := fun w1 b1 => by
  refine (h w1 b1).mono ?_
  rintro e w' ⟨v, rfl, hown, b⟩
  obtain ⟨A1, c1, rfl, l1⟩ := own_lies hown
  exact ⟨A1, c1, rfl, l1, b⟩

theorem sames (U : List Int) (hU : Bytes U) : ∀ w1 A1 A2 c1 c2, Lies w1 .u8 w1.heap.size A1 U → Lies w1 .u8 w1.heap.size A2 U → Calls Try.prog 17 #[.slice A1 U.length c1, .slice A2 U.length c2] w1 fun e w' => e = .returned (.bool true) ∧ Below w1.heap.size w1 w' := fun w1 A1 A2 c1 c2 h1 h2 => by
  refine (same_any A1 A2 _ _ _ c1 _ c2 U U w1 h1 h2 hU hU rfl rfl).mono ?_
  rintro e w' ⟨rfl, b⟩
  rw [decide_eq_true rfl]
  exact ⟨rfl, b⟩

set_option maxHeartbeats 4000000 in
theorem of_main (w : World) (A : Option Addr) (cap n : Nat) (d x e' g o : Int) (U S : List Int) (hn : (n : Int) ≤ 200)
    (M1 : Hid (Gives 11 #[.int .i64 d, .slice A n cap] w (.tuple #[.int .i64 x, .int .i64 e']))) (M2 : Hid (Gives 12 #[.int .i64 d, .slice A n cap] w (.tuple #[.int .i64 x, .int .i64 e'])))
    (O1 : Hid (Rows2 13 #[.slice A n cap] w U g)) (O2 : Hid (Rows2 14 #[.slice A n cap] w U g))
    (F1 : Hid (Gives 15 #[.slice A n cap] w (.int .i64 o))) (F2 : Hid (Gives 16 #[.slice A n cap] w (.int .i64 o)))
    (S1 : Hid (Rows1 18 #[.slice A n cap] w S)) (S2 : Hid (Rows1 19 #[.slice A n cap] w S)) (bU : Bytes U) (bS : Bytes S) :
    Calls Try.prog 3 #[.slice A n cap, .int .i64 d] w fun e w' => e = .returned (.bool true) ∧ Below w.heap.size w w' := by
  have HSU := Lib.hid (sames U bU)
  have HSS := Lib.hid (sames S bS)
  clear bU bS
  go_enter Try.func3, Try.ntmps3
  go_wp2_with (fail)
  refine (awake_any _).mono ?_
  rintro e w1 ⟨rfl, b⟩
  have B1 := Lib.hid b
  clear b
  go_wp2_with (fail)
  refine (M1.out _ B1.out).mono ?_
  rintro e w2 ⟨rfl, b⟩
  have B2 := Lib.hid (bt B1.out b)
  clear b
  go_wp2_with (fail)
  refine (M2.out _ B2.out).mono ?_
  rintro e w3 ⟨rfl, b⟩
  have B3 := Lib.hid (bt B2.out b)
  clear b
  go_wp2_with (fail)
  refine (O1.out _ B3.out).mono ?_
  rintro e w4 ⟨U1, cu1, rfl, l1, b⟩
  have B4 := Lib.hid (bt B3.out b)
  have L1 := Lib.hid l1
  clear b l1
  go_wp2_with (fail)
  refine (O2.out _ B4.out).mono ?_
  rintro e w5 ⟨U2, cu2, rfl, l2, b⟩
  have B5 := Lib.hid (bt B4.out b)
  have L1 := Lib.hid (L1.out.later b)
  have L2 := Lib.hid l2
  clear b l2
  go_wp2_with (fail)
  refine (F1.out _ B5.out).mono ?_
  rintro e w6 ⟨rfl, b⟩
  have B6 := Lib.hid (bt B5.out b)
  have L1 := Lib.hid (L1.out.later b)
  have L2 := Lib.hid (L2.out.later b)
  clear b
  go_wp2_with (fail)
  refine (F2.out _ B6.out).mono ?_
  rintro e w7 ⟨rfl, b⟩
  have B7 := Lib.hid (bt B6.out b)
  have L1 := Lib.hid (L1.out.later b)
  have L2 := Lib.hid (L2.out.later b)
  clear b
  go_wp2_with (fail)
  refine (S1.out _ B7.out).mono ?_
  rintro e w8 ⟨V1, cv1, rfl, l3, b⟩
  have B8 := Lib.hid (bt B7.out b)
  have L1 := Lib.hid (L1.out.later b)
  have L2 := Lib.hid (L2.out.later b)
  have L3 := Lib.hid l3
  clear b l3
  go_wp2_with (fail)
  refine (S2.out _ B8.out).mono ?_
  rintro e w9 ⟨V2, cv2, rfl, l4, b⟩
  have B9 := Lib.hid (bt B8.out b)
  have L1 := Lib.hid (L1.out.later b)
  have L2 := Lib.hid (L2.out.later b)
  have L3 := Lib.hid (L3.out.later b)
  have L4 := Lib.hid l4
  clear b l4
  go_wp2_with (fail)
  refine (HSS.out _ V1 V2 cv1 cv2 L3.out L4.out).mono ?_
  rintro e w10 ⟨rfl, b⟩
  have B10 := Lib.hid (bt B9.out b)
  have L1 := Lib.hid (L1.out.later b)
  have L2 := Lib.hid (L2.out.later b)
  clear b
  go_wp2_with (fail)
  refine (HSU.out _ U1 U2 cu1 cu2 L1.out L2.out).mono ?_
  rintro e w11 ⟨rfl, b⟩
  have B11 := Lib.hid (bt B10.out b)
  clear b
  go_wp2
  go_ret
  exact ⟨by first | rfl | simp, B11.out⟩

set_option maxHeartbeats 1000000 in
theorem of_out (w : World) (A : Option Addr) (cap n : Nat) (d : Int) (h : (200 : Int) < n) :
    Calls Try.prog 3 #[.slice A n cap, .int .i64 d] w fun e w' => e = .returned (.bool true) ∧ Below w.heap.size w w' := by
  go_enter Try.func3, Try.ntmps3
  go_wp2_with (fail)
  refine (awake_any _).mono ?_
  rintro e w1 ⟨rfl, b1⟩
  go_wp2
  go_ret
  exact ⟨rfl, b1⟩

theorem walk (w : World) (A0 : Option Addr) (c0 : Nat) (Z : List Int) (hZ : Lies w .u8 w.heap.size A0 Z) (bZ : ∀ n ∈ Z, (Lit.int .u8 n).wf = true) (kZ : Z.length ≤ c0 ∧ c0 ≤ maxLen) (nZ : A0 = none → c0 = 0)
    (d : Int) (hd : (Lit.int .i64 d).wf = true) :
    Calls Try.prog 3 #[.slice A0 Z.length c0, .int .i64 d] w fun e w' => e = .returned (.bool true) ∧ Below w.heap.size w w' := by
  by_cases h : Z.length ≤ 200
  · have bb := bytes_of bZ
    have hl : ((Z.length : Nat) : Int) ≤ 200 := by omega
    obtain ⟨U, g, bU, O1, O2⟩ := opens A0 c0 Z w hZ bb hl kZ.1
    obtain ⟨x, e', M1, M2⟩ := mores d A0 c0 Z w hZ bb hl
    obtain ⟨r1, r2⟩ := ext_range Z 0 (by decide) (by decide)
    have bS : Bytes (Z ++ sumB (ext 0 Z)) := fun n hn => (List.mem_append.1 hn).elim (bb n) (sumB_bytes _ r1 r2 n)
    exact of_main w A0 c0 Z.length d x e' g (ext 0 Z) U (Z ++ sumB (ext 0 Z)) hl (Lib.hid M1) (Lib.hid M2) (Lib.hid O1) (Lib.hid O2)
      (Lib.hid fun w1 b1 => of_any A0 c0 Z w1 (hZ.later b1) bb (by omega)) (Lib.hid fun w1 b1 => refOf_any A0 c0 Z w1 (hZ.later b1) bb (by omega))
      (Lib.hid (rows1 fun w1 b1 => seal_any A0 c0 Z w1 (hZ.later b1) bb (by omega) nZ)) (Lib.hid (rows1 fun w1 b1 => refSeal_any A0 c0 Z w1 (hZ.later b1) bb (by omega))) bU bS
  · exact of_out w A0 c0 _ d (by omega)

end Go.Proofs.Ytpgkgagmdjhojaa.DigOf
