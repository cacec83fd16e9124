/- The walk of the law LexerWords. -/
import Derived.Test.YtanhljpmknfabaaDoorLexFull
namespace Go.Proofs.YtanhljpmknfabaaDoor.LexWords
set_option linter.unusedVariables false
open Go.RowKit Go.Proofs.YtanhljpmknfabaaDoor.LexModel Go.Proofs.YtanhljpmknfabaaDoor.LexMath Go.Proofs.YtanhljpmknfabaaDoor.LexSkip Go.Proofs.YtanhljpmknfabaaDoor.LexTok Go.Proofs.YtanhljpmknfabaaDoor.LexLex Go.Proofs.YtanhljpmknfabaaDoor.LexAwake Go.Proofs.YtanhljpmknfabaaDoor.LexRef1 Go.Proofs.YtanhljpmknfabaaDoor.LexRef2 Go.Proofs.YtanhljpmknfabaaDoor.LexVal Go.Proofs.YtanhljpmknfabaaDoor.LexFull

theorem words_long (l : List UInt8) (w : World) (ht : TabM w) (hl : 80 < l.length) :
    Calls Tryd.prog 5 #[.string (sv l)] w fun e w' => e = .returned (.bool true) ∧ Below w.heap.size w w' := by
  have HA := Lib.hid (awake_any w ht.tab)
  have hz := sv_size l
  have h4 : (80 : Int) < l.length := by omega
  clear ht
  go_enter Tryd.func5, Tryd.ntmps5
  go_wp2_with (fail)
  refine HA.out.mono ?_
  rintro e w1 ⟨rfl, b1⟩
  have HB1 := Lib.hid b1
  clear b1
  go_wp2
  go_ret
  exact ⟨rfl, HB1.out⟩

set_option maxRecDepth 100000 in
set_option maxHeartbeats 4000000 in
theorem words_short (l : List UInt8) (w : World) (ht : TabM w) (hl : ¬ 80 < l.length) :
    Calls Tryd.prog 5 #[.string (sv l)] w fun e w' => e = .returned (.bool true) ∧ Below w.heap.size w w' := by
  have hl1 : (l.length : Int) ≤ 1000000 := by omega
  have HA := Lib.hid (awake_any w ht.tab)
  have HV := Lib.hid (fun w1 (hb : Below w.heap.size w w1) => value_any l w1 (ht.below hb).tab hl1)
  have HVr := Lib.hid (fun w1 => refValue_any l w1 hl1)
  have HR := Lib.hid (fun w1 (hb : Below w.heap.size w w1) => reserved_any l w1 (ht.below hb).tab)
  have HRr := Lib.hid (fun w1 => refReserved_any l w1)
  have HN := Lib.hid (fun w1 (hb : Below w.heap.size w w1) => isName_any l w1 (ht.below hb).tab hl1)
  have HNr := Lib.hid (fun w1 => refName_any l w1 hl1)
  have HF := Lib.hid (fun w1 (hb : Below w.heap.size w w1) => full_any l w1 (ht.below hb) hl1)
  have HFr := Lib.hid (fun w1 => refFull_any l w1 hl1)
  rw [name_eq] at HN
  unfold valV at HV HVr
  generalize ((valR l).getD 0 : Nat) = n at *
  generalize (valR l).isSome = b at *
  generalize reserved.contains l = r at *
  generalize nameR l = m at *
  generalize fullR l = f at *
  have hz := sv_size l
  have h4 : ¬ (80 : Int) < l.length := by omega
  clear ht hl
  go_enter Tryd.func5, Tryd.ntmps5
  go_wp2_with (fail)
  refine HA.out.mono ?_
  rintro e w1 ⟨rfl, b1⟩
  have HB1 := Lib.hid b1
  clear b1
  go_wp2_with (fail)
  refine (HV.out w1 HB1.out).mono ?_
  rintro e w2 ⟨rfl, b2⟩
  have HB2 := Lib.hid (bt HB1.out b2)
  clear b2
  go_wp2_with (fail)
  refine (HVr.out w2).mono ?_
  rintro e w3 ⟨rfl, rfl⟩
  go_wp2_with (fail)
  refine (HR.out w2 HB2.out).mono ?_
  rintro e w3 ⟨rfl, rfl⟩
  go_wp2_with (fail)
  refine (HRr.out w2).mono ?_
  rintro e w3 ⟨rfl, rfl⟩
  go_wp2_with (fail)
  refine (HN.out w2 HB2.out).mono ?_
  rintro e w3 ⟨rfl, b3⟩
  have HB3 := Lib.hid (bt HB2.out b3)
  clear b3
  go_wp2_with (fail)
  refine (HNr.out w3).mono ?_
  rintro e w4 ⟨rfl, rfl⟩
  go_wp2_with (fail)
  refine (HF.out w3 HB3.out).mono ?_
  rintro e w4 ⟨rfl, b4⟩
  have HB4 := Lib.hid (bt HB3.out b4)
  clear b4
  go_wp2_with (fail)
  refine (HFr.out w4).mono ?_
  rintro e w5 ⟨rfl, rfl⟩
  go_wp2
  go_ret
  exact ⟨rfl, HB4.out⟩

/-- The law, at any string. -/
theorem words_law (w : World) (ht : TabM w) (s : ByteArray) (ws : s.size ≤ maxLen) :
    Calls Tryd.prog 5 #[.string s] w fun e w' => e = .returned (.bool true) ∧ Below w.heap.size w w' := by
  rw [← sv_data s]
  generalize s.data.toList = l
  by_cases h : 80 < l.length
  · exact words_long l w ht h
  · exact words_short l w ht h

end Go.Proofs.YtanhljpmknfabaaDoor.LexWords
