/- The law DigestTexts: the walk. -/
import Derived.Test.YtpgkgagmdjhojaaDigTexts
namespace Go.Proofs.Ytpgkgagmdjhojaa.DigTexts
set_option linter.unusedVariables false
open Go.RowKit Go.Proofs.Ytpgkgagmdjhojaa.DigMul Go.Proofs.Ytpgkgagmdjhojaa.DigExt Go.Proofs.Ytpgkgagmdjhojaa.DigParse Go.Proofs.Ytpgkgagmdjhojaa.DigAwake Go.Proofs.Ytpgkgagmdjhojaa.DigText Go.Proofs.Ytpgkgagmdjhojaa.DigTextMath Go.Proofs.Ytpgkgagmdjhojaa.DigNumbers

set_option maxHeartbeats 1000000 in
theorem texts_main (s u t : ByteArray) (d r g e' h n i : Int) (w : World) (hs : ((s.size : Nat) : Int) ≤ 40)
    (P1 : Hid (Twice 26 #[.string s] (.int .i64 r) g)) (P2 : Hid (Twice 27 #[.string s] (.int .i64 r) g))
    (P3 : Hid (Twice 24 #[.int .i64 r] (.string t) e')) (hc : (g = 0 ∧ e' = 0 ∧ t = s) ∨ 0 < g)
    (P4 : Hid (Twice 24 #[.int .i64 d] (.string u) h)) (P5 : Hid (Twice 26 #[.string u] (.int .i64 n) i)) (hd : (h = 0 ∧ i = 0 ∧ n = d) ∨ 0 < h) :
    Calls Try.prog 5 #[.string s, .int .i64 d] w fun e w' => e = .returned (.bool true) ∧ Below w.heap.size w w' := by
  rcases hc with ⟨rfl, rfl, rfl⟩ | hc <;> rcases hd with ⟨rfl, rfl, rfl⟩ | hd
  all_goals
    go_enter Try.func5, Try.ntmps5
    go_wp2_with (fail)
    refine (awake_any _).mono ?_
    rintro e w1 ⟨rfl, b⟩
    have B1 := Lib.hid b
    clear b
    go_wp2_with (fail)
    refine (P1.out _).mono ?_
    rintro e w2 ⟨rfl, b⟩
    have B2 := Lib.hid (bt B1.out b)
    clear b
    go_wp2_with (fail)
    refine (P2.out _).mono ?_
    rintro e w3 ⟨rfl, b⟩
    have B3 := Lib.hid (bt B2.out b)
    clear b
    go_wp2_with (fail)
    refine (P3.out _).mono ?_
    rintro e w4 ⟨rfl, b⟩
    have B4 := Lib.hid (bt B3.out b)
    clear b
    go_wp2_with (fail)
    refine (P4.out _).mono ?_
    rintro e w5 ⟨rfl, b⟩
    have B5 := Lib.hid (bt B4.out b)
    clear b
    go_wp2_with (fail)
    refine (P5.out _).mono ?_
    rintro e w6 ⟨rfl, b⟩
    have B6 := Lib.hid (bt B5.out b)
    clear b
    go_wp2
    go_ret
    exact ⟨by first | rfl | simp, B6.out⟩

set_option maxHeartbeats 1000000 in
theorem texts_out (s : ByteArray) (d : Int) (w : World) (hs : 40 < ((s.size : Nat) : Int)) :
    Calls Try.prog 5 #[.string s, .int .i64 d] w fun e w' => e = .returned (.bool true) ∧ Below w.heap.size w w' := by
  go_enter Try.func5, Try.ntmps5
  go_wp2_with (fail)
  refine (awake_any _).mono ?_
  rintro e w1 ⟨rfl, b1⟩
  go_wp2
  go_ret
  exact ⟨rfl, b1⟩

theorem walk (w : World) (s : ByteArray) (hs : s.size ≤ maxLen) (d : Int) (hd : (Lit.int .i64 d).wf = true) :
    Calls Try.prog 5 #[.string s, .int .i64 d] w fun e w' => e = .returned (.bool true) ∧ Below w.heap.size w w' := by
  by_cases h : s.size ≤ 40
  · have hl : ((s.size : Nat) : Int) ≤ 40 := by omega
    obtain ⟨r, g, P1, P2, hP⟩ := parses s
    obtain ⟨u, h', n, i, P4, P5, hB⟩ := back d
    rcases hP with ⟨rfl, P3⟩ | ⟨hg, t, e', P3⟩
    · exact texts_main s u s d r 0 0 h' n i w hl (Lib.hid P1) (Lib.hid P2) (Lib.hid P3) (Or.inl ⟨rfl, rfl, rfl⟩) (Lib.hid P4) (Lib.hid P5) hB
    · exact texts_main s u t d r g e' h' n i w hl (Lib.hid P1) (Lib.hid P2) (Lib.hid P3) (Or.inr hg) (Lib.hid P4) (Lib.hid P5) hB
  · exact texts_out s d w (by omega)

end Go.Proofs.Ytpgkgagmdjhojaa.DigTexts
