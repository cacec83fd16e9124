/- The walk of the law LexerLong. -/
import Derived.Test.YtanhljpmknfabaaDoorLexSame
namespace Go.Proofs.YtanhljpmknfabaaDoor.LexLong
set_option linter.unusedVariables false
open Go.RowKit Go.Proofs.YtanhljpmknfabaaDoor.LexModel Go.Proofs.YtanhljpmknfabaaDoor.LexMath Go.Proofs.YtanhljpmknfabaaDoor.LexSkip Go.Proofs.YtanhljpmknfabaaDoor.LexTok Go.Proofs.YtanhljpmknfabaaDoor.LexLex Go.Proofs.YtanhljpmknfabaaDoor.LexAwake Go.Proofs.YtanhljpmknfabaaDoor.LexRLex Go.Proofs.YtanhljpmknfabaaDoor.LexSame

theorem refLex_long (l : List UInt8) (w : World) (h : 20000 < l.length) :
    Calls Tryd.prog 12 #[.string (sv l)] w fun r w' => r = .returned (.tuple #[.slice none 0 0, .int .i64 0, .int .i64 3]) ∧ Below w.heap.size w w' := by
  have hz := sv_size l
  have h : (20000 : Int) < l.length := by omega
  go_enter Tryd.func12, Tryd.ntmps12
  go_wp2
  exact bodyPost_ret (v := .tuple #[.slice none 0 0, .int .i64 0, .int .i64 3]) (by simp [results, Tryd.results12, go_sem]) rfl ⟨rfl, Below.refl _ _⟩

theorem both_all (l : List UInt8) (hl : (l.length : Int) ≤ 1000000) : ∃ (ts : List Tok) (p q : Nat), ts.length ≤ 4000 ∧
    (∀ w, Tab w → Calls Tryd.prog 11 #[.string (sv l)] w fun r w' => ∃ A c, r = .returned (.tuple #[.slice A ts.length c, .int .i64 p, .int .i64 q]) ∧ Toks w' A ts ∧ Below w.heap.size w w') ∧
    (∀ w, Calls Tryd.prog 12 #[.string (sv l)] w fun r w' => ∃ A c, r = .returned (.tuple #[.slice A ts.length c, .int .i64 p, .int .i64 q]) ∧ Toks w' A ts ∧ Below w.heap.size w w') := by
  by_cases h2 : 20000 < l.length
  · have hx : lex l = .error (0, 3) := by rw [lex_eq, if_pos h2]
    refine ⟨[], 0, 3, Nat.zero_le _, fun w ht => ?_, fun w => ?_⟩
    · refine (lex_err l _ w ht (by omega) hx).mono fun r w' h => ⟨none, 0, h.1, fun h => absurd h (Nat.lt_irrefl _), h.2⟩
    · refine (refLex_long l w h2).mono fun r w' h => ⟨none, 0, h.1, fun h => absurd h (Nat.lt_irrefl _), h.2⟩
  · cases hx : lex l with
    | error p =>
      refine ⟨[], p.1, p.2, Nat.zero_le _, fun w ht => ?_, fun w => ?_⟩
      · refine (lex_err l p w ht (by omega) hx).mono fun r w' h => ⟨none, 0, h.1, fun h => absurd h (Nat.lt_irrefl _), h.2⟩
      · refine (refLex_main l w h2).mono fun r w' h => ?_
        unfold RefPost at h
        rw [hx] at h
        exact ⟨none, 0, h.1, fun h => absurd h (Nat.lt_irrefl _), h.2⟩
    | ok ts =>
      refine ⟨ts, 0, 0, lex_len hx, fun w ht => lex_ok l ts w ht (by omega) hx, fun w => ?_⟩
      refine (refLex_main l w h2).mono fun r w' h => ?_
      unfold RefPost at h
      rw [hx] at h
      obtain ⟨A, c, h1, h2, h3⟩ := h
      exact ⟨A, c, h1, OwnT.toks h2, h3⟩

def rep (l : List UInt8) : Nat → List UInt8
  | 0 => []
  | n + 1 => rep l n ++ l

theorem rep_len (l : List UInt8) : ∀ n, (rep l n).length = n * l.length
  | 0 => by simp [rep]
  | n + 1 => by rw [rep, List.length_append, rep_len l n, Nat.add_mul, Nat.one_mul]

theorem sv_append (a b : List UInt8) : sv a ++ sv b = sv (a ++ b) := by
  have : (sv a ++ sv b).data.toList = a ++ b := by
    rw [ByteArray.data_append, Array.toList_append]
    rfl
  rw [← sv_data (sv a ++ sv b), this]

set_option maxRecDepth 100000 in
set_option maxHeartbeats 4000000 in
theorem long_main (l : List UInt8) (n : Nat) (w : World) (ht : Tab w) (hn : n < 8001) (hl : (l.length : Int) ≤ 60) (hk : ((n * l.length : Nat) : Int) ≤ 30000) (m : Int) (hm0 : 0 ≤ m) (hm1 : m ≤ 65535) (hmn : m % 8001 = n) :
    Calls Tryd.prog 4 #[.string (sv l), .int .u16 m] w fun e w' => e = .returned (.bool true) ∧ Below w.heap.size w w' := by
  have HA := Lib.hid (awake_any w ht)
  have hz := sv_size l
  obtain ⟨P, hP⟩ : ∃ P : Int, (l.length : Int) * n = P := ⟨_, rfl⟩
  have hP0 : 0 ≤ P := by rw [← hP]; exact Int.mul_nonneg (by omega) (by omega)
  have hP1 : P ≤ 30000 := by rw [← hP, Int.mul_comm]; simpa using hk
  have hd1 : decide ((60 : Int) < l.length) = false := decide_eq_false (by omega)
  have hd2 : decide ((30000 : Int) < P) = false := decide_eq_false (by omega)
  have hrl : ((rep l n).length : Int) ≤ 1000000 := by rw [rep_len]; omega
  obtain ⟨ts, p, q, hts, h1, h2⟩ := both_all (rep l n) hrl
  have H1 := Lib.hid (fun w1 (hb : Below w.heap.size w w1) => h1 w1 (ht.below hb))
  have H2 := Lib.hid h2
  have HTh := Lib.hid (fun A c w1 h => theirs_any ts A c w1 h hts)
  have HSa := Lib.hid (fun A B c d w1 ha hb => same_any ts A B c d w1 ha hb hts)
  clear h1 h2 hts hrl hk
  have hmt : m.tmod 8001 = n := by rw [Int.tmod_eq_emod_of_nonneg hm0, hmn]
  have HTb := Lib.hid ht
  clear ht
  go_enter Tryd.func4, Tryd.ntmps4
  go_wp2_with (fail)
  refine HA.out.mono ?_
  rintro e w1 ⟨rfl, b1⟩
  have HB1 := Lib.hid b1
  clear b1
  go_wp2_with (fail)
  go_loop [6, 7] (fun s6 s7 => ∃ i : Nat, (i : Int) ≤ n ∧ s6 = .string (sv (rep l i)) ∧ s7 = .int .i64 i) (fun _ s7 => n - (intOf s7).toNat)
  case atStart => exact ⟨0, by omega, rfl, rfl⟩
  case round =>
    obtain ⟨i, hi, rfl, rfl⟩ := hrel
    by_cases hlt : i < n
    · have hlt' : (i : Int) < n := by omega
      have e1 : sv (rep l i) ++ sv l = sv (rep l (i + 1)) := sv_append _ _
      have hz1 := sv_size (rep l i)
      have hle : ((rep l i).length : Int) ≤ 30000 := by
        rw [rep_len]
        have : ((i : Int) * l.length) ≤ (n : Int) * l.length := Int.mul_le_mul_of_nonneg_right (by omega) (by omega)
        rw [Int.mul_comm (n : Int), hP] at this
        push_cast
        omega
      go_wp2
      go_round
      case rel => exact ⟨i + 1, by omega, rfl, by go_num⟩
      case measure => simp [intOf]; omega
    · obtain rfl : i = n := by omega
      go_wp2_with (fail)
      refine (H1.out w1 HB1.out).mono ?_
      rintro e w2 ⟨A2, c2, rfl, t2, b2⟩
      have HB2 := Lib.hid (bt HB1.out b2)
      have HT2 := Lib.hid t2
      clear b2 t2
      go_wp2_with (fail)
      refine (H2.out w2).mono ?_
      rintro e w3 ⟨A3, c3, rfl, t3, b3⟩
      have HB3 := Lib.hid (bt HB2.out b3)
      have HT3 := Lib.hid t3
      have HT23 := Lib.hid (HT2.out.below b3)
      clear b3 t3
      go_wp2_with (fail)
      refine (HTh.out A2 c2 w3 HT23.out).mono ?_
      rintro e w4 ⟨A4, c4, rfl, t4, b4⟩
      have HB4 := Lib.hid (bt HB3.out b4)
      have HT4 := Lib.hid t4
      have HT34 := Lib.hid (HT3.out.below b4)
      clear b4 t4
      go_wp2_with (fail)
      refine (HSa.out A4 A3 c4 c3 w4 HT4.out HT34.out).mono ?_
      rintro e w5 ⟨rfl, b5⟩
      have HB5 := Lib.hid (bt HB4.out b5)
      clear b5
      go_wp2
      go_ret
      exact ⟨rfl, HB5.out⟩

theorem long_skip (l : List UInt8) (n : Nat) (w : World) (ht : Tab w) (hn : n < 8001) (m : Int) (hm0 : 0 ≤ m) (hm1 : m ≤ 65535) (hmn : m % 8001 = n) (h : (60 : Int) < l.length ∨ ((l.length : Int) ≤ 60 ∧ (30000 : Int) < (l.length : Int) * n)) :
    Calls Tryd.prog 4 #[.string (sv l), .int .u16 m] w fun e w' => e = .returned (.bool true) ∧ Below w.heap.size w w' := by
  have HA := Lib.hid (awake_any w ht)
  have hz := sv_size l
  have hmt : m.tmod 8001 = n := by rw [Int.tmod_eq_emod_of_nonneg hm0, hmn]
  clear ht
  rcases h with h | ⟨h, h2⟩
  · go_enter Tryd.func4, Tryd.ntmps4
    go_wp2_with (fail)
    refine HA.out.mono ?_
    rintro e w1 ⟨rfl, b1⟩
    have HB1 := Lib.hid b1
    clear b1
    go_wp2
    go_ret
    exact ⟨rfl, HB1.out⟩
  · obtain ⟨P, hP⟩ : ∃ P : Int, (l.length : Int) * n = P := ⟨_, rfl⟩
    have hP0 : 0 ≤ P := by rw [← hP]; exact Int.mul_nonneg (by omega) (by omega)
    have hP1 : P ≤ 60 * 8001 := by rw [← hP]; exact Int.mul_le_mul h (by omega) (by omega) (by omega)
    rw [hP] at h2
    have hP1 : P ≤ 480060 := by omega
    go_enter Tryd.func4, Tryd.ntmps4
    go_wp2_with (fail)
    refine HA.out.mono ?_
    rintro e w1 ⟨rfl, b1⟩
    have HB1 := Lib.hid b1
    clear b1
    go_wp2
    go_ret
    exact ⟨rfl, HB1.out⟩

/-- The law, at any text and number. -/
theorem long_law (w : World) (ht : Tab w) (s : ByteArray) (ws : s.size ≤ maxLen) (m : Int) (wm : (Lit.int .u16 m).wf = true) :
    Calls Tryd.prog 4 #[.string s, .int .u16 m] w fun e w' => e = .returned (.bool true) ∧ Below w.heap.size w w' := by
  have hm : 0 ≤ m ∧ m ≤ 65535 := by simpa [Lit.wf, IntKind.min, IntKind.max, IntKind.signed, IntKind.bits] using wm
  obtain ⟨n, hn⟩ : ∃ n : Nat, m % 8001 = n := ⟨(m % 8001).toNat, by omega⟩
  rw [← sv_data s]
  generalize s.data.toList = l
  by_cases h60 : (60 : Int) < l.length
  · exact long_skip l n w ht (by omega) m hm.1 hm.2 hn (Or.inl h60)
  · by_cases h3 : (30000 : Int) < (l.length : Int) * n
    · exact long_skip l n w ht (by omega) m hm.1 hm.2 hn (Or.inr ⟨by omega, h3⟩)
    · exact long_main l n w ht (by omega) (by omega) (by rw [Int.mul_comm] at h3; push_cast; omega) m hm.1 hm.2 hn

end Go.Proofs.YtanhljpmknfabaaDoor.LexLong
