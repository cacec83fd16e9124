/- The law IntmathLists. -/
import Derived.Test.YtbpppeekfjfolaaIntLSum
namespace Go.Proofs.Ytbpppeekfjfolaa.IntLists
set_option linter.unusedVariables false
open Go.RowKit Go.Proofs.Ytbpppeekfjfolaa.IntPlain Go.Proofs.Ytbpppeekfjfolaa.IntWalks Go.Proofs.Ytbpppeekfjfolaa.IntWide Go.Proofs.Ytbpppeekfjfolaa.IntTotal Go.Proofs.Ytbpppeekfjfolaa.IntNumber Go.Proofs.Ytbpppeekfjfolaa.IntSum Go.Proofs.Ytbpppeekfjfolaa.IntAwake Go.Proofs.Ytbpppeekfjfolaa.IntDivision Go.Proofs.Ytbpppeekfjfolaa.IntBasic Go.Proofs.Ytbpppeekfjfolaa.IntGcd Go.Proofs.Ytbpppeekfjfolaa.IntLcm Go.Proofs.Ytbpppeekfjfolaa.IntDigits Go.Proofs.Ytbpppeekfjfolaa.IntLDot Go.Proofs.Ytbpppeekfjfolaa.IntLRef Go.Proofs.Ytbpppeekfjfolaa.IntLDotR Go.Proofs.Ytbpppeekfjfolaa.IntLSum

/-- A call that returns two numbers, in every world that has grown out of w. -/
def Two (w : World) (f : FuncId) (args : Array Value) (x e : Int) : Prop := ∀ w1, Below w.heap.size w w1 → Calls Try.prog f args w1 fun r w' => r = .returned (.tuple #[.int .i64 x, .int .i64 e]) ∧ Below w1.heap.size w1 w'

theorem gcds_same (A : Option Addr) (c : Nat) (zs : List Int) (w : World) (hl : Lies w .i64 w.heap.size A zs) (hlen : zs.length ≤ 60) :
    ∃ x e, Two w 30 #[.slice A zs.length c] x e ∧ Two w 31 #[.slice A zs.length c] x e := by
  rcases Nat.eq_zero_or_pos zs.length with h | h0
  · rw [h]
    exact ⟨0, 0, fun w1 _ => gcds_nil A c w1, fun w1 _ => refGcds_nil A c w1⟩
  · cases hall : zs.all inR
    · refine ⟨0, 2, fun w1 b => ?_, fun w1 b => ?_⟩
      · obtain ⟨bl, o, H⟩ := at_of (hl.later b)
        obtain ⟨rfl, hb⟩ := H.addr h0
        have := gcds_any bl o c zs w1 hb (by omega) H.cell
        rw [hall] at this
        exact this
      · obtain ⟨bl, o, H⟩ := at_of (hl.later b)
        obtain ⟨rfl, hb⟩ := H.addr h0
        exact refGcds_out bl o c _ zs w1 hb rfl (by omega) H.cell hall
    · refine ⟨(gcds zs : Nat), 0, fun w1 b => ?_, fun w1 b => ?_⟩
      · obtain ⟨bl, o, H⟩ := at_of (hl.later b)
        obtain ⟨rfl, hb⟩ := H.addr h0
        have := gcds_any bl o c zs w1 hb (by omega) H.cell
        rw [hall] at this
        exact this
      · obtain ⟨bl, o, H⟩ := at_of (hl.later b)
        obtain ⟨rfl, hb⟩ := H.addr h0
        exact refGcds_in bl o c _ zs w1 hb rfl (by omega) H.cell hall

theorem sum_same (A : Option Addr) (c : Nat) (zs : List Int) (w : World) (hl : Lies w .i64 w.heap.size A zs) (hlen : zs.length ≤ 60) :
    ∃ x e, Two w 32 #[.slice A zs.length c] x e ∧ Two w 33 #[.slice A zs.length c] x e := by
  obtain ⟨u, v, huv⟩ := out_two (zs.all inR && inR zs.sum) zs.sum
  refine ⟨u, v, fun w1 b => ?_, fun w1 b => ?_⟩
  · rw [← huv]
    rcases Nat.eq_zero_or_pos zs.length with h | h0
    · obtain rfl := List.eq_nil_of_length_eq_zero h
      exact sum_nil A c w1
    · obtain ⟨bl, o, H⟩ := at_of (hl.later b)
      obtain ⟨rfl, hb⟩ := H.addr h0
      exact sum_any bl o c zs w1 hb (by omega) H.cell
  · rw [← huv]
    exact refSum_any A c _ zs w1 (hl.later b) rfl hlen

theorem dot_same (A B : Option Addr) (c d : Nat) (xs ys : List Int) (w : World) (h1 : Lies w .i64 w.heap.size A xs) (h2 : Lies w .i64 w.heap.size B ys) (hx : xs.length ≤ 60) (hy : ys.length ≤ 60) :
    ∃ x e, Two w 34 #[.slice A xs.length c, .slice B ys.length d] x e ∧ Two w 35 #[.slice A xs.length c, .slice B ys.length d] x e := by
  have hd : ∃ u v : Int, dotOut xs ys = .tuple #[.int .i64 u, .int .i64 v] := by
    unfold dotOut
    split
    · exact out_two _ _
    · exact ⟨_, _, rfl⟩
  obtain ⟨u, v, huv⟩ := hd
  refine ⟨u, v, fun w1 b => ?_, fun w1 b => ?_⟩
  · rw [← huv]
    exact dot_any A B c d xs ys w1 (h1.later b) (h2.later b) hx hy
  · rw [← huv]
    exact refDot_any A B c d xs ys w1 (h1.later b) (h2.later b) hx hy

theorem lists_out (w : World) (A B : Option Addr) (c d n m : Nat) (hn : (n : Int) ≤ 9223372036854775807) (hm : (m : Int) ≤ 9223372036854775807) (h : 60 < n ∨ (n ≤ 60 ∧ 60 < m)) :
    Calls Try.prog 5 #[.slice A n c, .slice B m d] w fun e w' => e = .returned (.bool true) ∧ Below w.heap.size w w' := by
  rcases h with h | ⟨h1, h⟩
  all_goals
    go_enter Try.func5, Try.ntmps5
    go_wp2_with (fail)
    refine (awake_any _).mono ?_
    rintro e w0 ⟨rfl, b0⟩
    go_wp2
    go_ret
    exact ⟨rfl, b0⟩

theorem lists_main (w : World) (A B : Option Addr) (c d n m : Nat) (hn : n ≤ 60) (hm : m ≤ 60) (x1 e1 x2 e2 x3 e3 : Int)
    (P1 : Hid (Two w 30 #[.slice A n c] x1 e1)) (R1 : Hid (Two w 31 #[.slice A n c] x1 e1))
    (P2 : Hid (Two w 32 #[.slice A n c] x2 e2)) (R2 : Hid (Two w 33 #[.slice A n c] x2 e2))
    (P3 : Hid (Two w 34 #[.slice A n c, .slice B m d] x3 e3)) (R3 : Hid (Two w 35 #[.slice A n c, .slice B m d] x3 e3)) :
    Calls Try.prog 5 #[.slice A n c, .slice B m d] w fun e w' => e = .returned (.bool true) ∧ Below w.heap.size w w' := by
  go_enter Try.func5, Try.ntmps5
  go_wp2_with (fail)
  refine (awake_any _).mono ?_
  rintro e w0 ⟨rfl, b⟩
  have B0 := Lib.hid b
  clear b
  go_wp2_with (fail)
  refine (P1.out _ B0.out).mono ?_
  rintro e w1 ⟨rfl, b⟩
  have B1 := Lib.hid (bt B0.out b)
  clear b
  go_wp2_with (fail)
  refine (R1.out _ B1.out).mono ?_
  rintro e w2 ⟨rfl, b⟩
  have B2 := Lib.hid (bt B1.out b)
  clear b
  go_wp2_with (fail)
  refine (P2.out _ B2.out).mono ?_
  rintro e w3 ⟨rfl, b⟩
  have B3 := Lib.hid (bt B2.out b)
  clear b
  go_wp2_with (fail)
  refine (R2.out _ B3.out).mono ?_
  rintro e w4 ⟨rfl, b⟩
  have B4 := Lib.hid (bt B3.out b)
  clear b
  go_wp2_with (fail)
  refine (P3.out _ B4.out).mono ?_
  rintro e w5 ⟨rfl, b⟩
  have B5 := Lib.hid (bt B4.out b)
  clear b
  go_wp2_with (fail)
  refine (R3.out _ B5.out).mono ?_
  rintro e w6 ⟨rfl, b⟩
  have B6 := Lib.hid (bt B5.out b)
  clear b
  go_wp2
  go_ret
  exact ⟨by first | rfl | simp, B6.out⟩

theorem walk (w : World) (A : Option Addr) (c : Nat) (xs : List Int) (h1 : Lies w .i64 w.heap.size A xs) (w1 : ∀ n ∈ xs, (Lit.int .i64 n).wf = true) (k1 : xs.length ≤ c ∧ c ≤ maxLen) (n1 : A = none → c = 0)
    (B : Option Addr) (d : Nat) (ys : List Int) (h2 : Lies w .i64 w.heap.size B ys) (w2 : ∀ n ∈ ys, (Lit.int .i64 n).wf = true) (k2 : ys.length ≤ d ∧ d ≤ maxLen) (n2 : B = none → d = 0) :
    Calls Try.prog 5 #[.slice A xs.length c, .slice B ys.length d] w fun e w' => e = .returned (.bool true) ∧ Below w.heap.size w w' := by
  by_cases h : xs.length ≤ 60 ∧ ys.length ≤ 60
  · obtain ⟨x1, e1, p1, r1⟩ := gcds_same A c xs w h1 h.1
    obtain ⟨x2, e2, p2, r2⟩ := sum_same A c xs w h1 h.1
    obtain ⟨x3, e3, p3, r3⟩ := dot_same A B c d xs ys w h1 h2 h.1 h.2
    exact lists_main w A B c d _ _ h.1 h.2 x1 e1 x2 e2 x3 e3 (Lib.hid p1) (Lib.hid r1) (Lib.hid p2) (Lib.hid r2) (Lib.hid p3) (Lib.hid r3)
  · have hm : (maxLen : Int) ≤ 9223372036854775807 := by decide
    exact lists_out w A B c d _ _ (by omega) (by omega) (by omega)

end Go.Proofs.Ytbpppeekfjfolaa.IntLists
